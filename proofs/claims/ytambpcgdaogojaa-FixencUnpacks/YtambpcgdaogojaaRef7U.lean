/-
  The contract of the document's Unpack.
-/
import Derived.Test.YtambpcgdaogojaaRef7P
import Derived.Test.YtambpcgdaogojaaModR
import Derived.Test.YtambpcgdaogojaaDivOf
import Derived.Deep.RegionWith
import Derived.Deep.RegionHeld3
import Derived.BigRegion
namespace Go.Proofs.Ytambpcgdaogojaa
open Go.RowKit

/-- What stands while Unpack divides. -/
structure U7 (v0 : World) (xa : Option Addr) (xl xc : Nat) (xs : List Int) (wx : World) : Prop where
  hf : Nums wx xa xl xc xs
  hb : Below v0.heap.size v0 wx
theorem U7.below {v0 : World} {xa : Option Addr} {xl xc : Nat} {xs : List Int} {wx w' : World} (h : U7 v0 xa xl xc xs wx) (hb : Below wx.heap.size wx w') : U7 v0 xa xl xc xs w' := ⟨h.hf.below hb, h.hb.trans (hb.mono h.hb.size)⟩
theorem U7.alloc {v0 : World} {xa : Option Addr} {xl xc : Nat} {xs : List Int} {wx : World} (h : U7 v0 xa xl xc xs wx) (o : Obj) : U7 v0 xa xl xc xs (wx.alloc o) := h.below ((Below.refl _ _).alloc (Nat.le_refl _) o)
theorem U7.drew {v0 : World} {xa : Option Addr} {xl xc : Nat} {xs : List Int} {wx : World} (h : U7 v0 xa xl xc xs wx) : U7 v0 xa xl xc xs wx.drew := h.below ⟨rfl, rfl, rfl, Nat.le_refl _, fun _ _ => rfl⟩
theorem put2_below7 {B : Nat} {a w : World} (h : Below B a w) {g : Nat} (hg : B ≤ g) (x y : Value) : Below B a ((w.setCell ⟨g, 0, none⟩ x).setCell ⟨g, 1, none⟩ y) :=
  (h.setCell (p := ⟨g, 0, none⟩) hg x).setCell (p := ⟨g, 1, none⟩) hg y
theorem fac_keep7 {w : World} {g g' : Nat} (hne : g' ≠ g) {q : Bool} {sa : Option Addr} {sn sc : Nat} {v : Int} (c0 : w.cell? ⟨g, 0, none⟩ = some (.bool q)) (c1 : w.cell? ⟨g, 1, none⟩ = some (.slice sa sn sc)) (h : Fac w g' v) (x y : Value) : Fac ((w.setCell ⟨g, 0, none⟩ x).setCell ⟨g, 1, none⟩ y) g' v := by
  obtain ⟨p, a, n, c, L, ⟨e0, e1⟩, ⟨f0, f1⟩, hn, hr, hv⟩ := h
  exact ⟨p, a, n, c, L, ⟨(put2_other hne _ _).trans e0, (put2_other hne _ _).trans e1⟩, ⟨by simp [f0], by simp [f1]⟩, hn.put2 c0 c1 _ _, hr, hv⟩

/-- Two new variables hold x and y. -/
def Two7 (v : World) (x y : Int) (p12 p13 : Value) (wx : World) : Prop := ∃ g1 g2, p12 = .pointer (some ⟨g1, 0, none⟩) ∧ p13 = .pointer (some ⟨g2, 0, none⟩) ∧ Fac wx g1 x ∧ Fac wx g2 y ∧ Below v.heap.size v wx
theorem two_a {v w : World} {x y : Int} {q r : Bool} {qa ra : Option Addr} {qn qc rn rc : Nat} {qs rs : List Int} (hQ : Nums w qa qn qc qs) (hq : IsW q qs x) (hR : Nums w ra rn rc rs) (hr : IsW r rs y) (hb : Below v.heap.size v w) :
    Two7 v x y (.pointer (some ⟨w.heap.size, 0, none⟩)) (.pointer (some ⟨w.heap.size + 1, 0, none⟩)) ((w.alloc (.cells #[.bool q, .slice qa qn qc] 25)).alloc (.cells #[.bool r, .slice ra rn rc] 25)) := by
  have h1 := fac_alloc hQ hq.2.1 hq.2.2
  have h2 := fac_alloc (hR.growD (.cells #[.bool q, .slice qa qn qc] 25)) hr.2.1 hr.2.2
  rw [World.size_alloc] at h2
  exact ⟨_, _, rfl, rfl, h1.below ((Below.refl _ _).alloc (Nat.le_refl _) _), h2, bgrowD (bgrowD hb _) _⟩
theorem two_b {v w : World} {x y : Int} {q r : Bool} {qa ra : Option Addr} {qn qc rn rc : Nat} {qs rs : List Int} (hQ : Nums w qa qn qc qs) (hq : IsW q qs x) (hR : Nums w ra rn rc rs) (hr : IsW r rs y) (hb : Below v.heap.size v w) :
    Two7 v x y (.pointer (some ⟨w.heap.size + 1, 0, none⟩)) (.pointer (some ⟨w.heap.size, 0, none⟩)) ((w.alloc (.cells #[.bool r, .slice ra rn rc] 25)).alloc (.cells #[.bool q, .slice qa qn qc] 25)) := by
  obtain ⟨g1, g2, e1, e2, f1, f2, hb'⟩ := two_a hR hr hQ hq hb
  exact ⟨g2, g1, e2, e1, f2, f1, hb'⟩
theorem two_c {v w : World} {x y : Int} {q r p : Bool} {qa ra sa : Option Addr} {qn qc rn rc sn sc g : Nat} {qs rs : List Int} (hQ : Nums w qa qn qc qs) (hq : IsW q qs x) (hR : Nums w ra rn rc rs) (hr : IsW r rs y) (hb : Below v.heap.size v w)
    (c0 : w.cell? ⟨g, 0, none⟩ = some (.bool p)) (c1 : w.cell? ⟨g, 1, none⟩ = some (.slice sa sn sc)) (f0 : w.frozen? ⟨g, 0, none⟩ = false) (f1 : w.frozen? ⟨g, 1, none⟩ = false) (hg : v.heap.size ≤ g) :
    Two7 v x y (.pointer (some ⟨g, 0, none⟩)) (.pointer (some ⟨w.heap.size, 0, none⟩)) (((w.setCell ⟨g, 0, none⟩ (.bool q)).setCell ⟨g, 1, none⟩ (.slice qa qn qc)).alloc (.cells #[.bool r, .slice ra rn rc] 25)) := by
  have h1 := fac_put c0 c1 f0 f1 hQ hq.2.1 hq.2.2
  have h2 := fac_alloc (hR.put2 c0 c1 (.bool q) (.slice qa qn qc)) hr.2.1 hr.2.2
  have e : ((w.setCell ⟨g, 0, none⟩ (.bool q)).setCell ⟨g, 1, none⟩ (.slice qa qn qc)).heap.size = w.heap.size := by simp
  rw [e] at h2
  exact ⟨_, _, rfl, rfl, h1.below ((Below.refl _ _).alloc (Nat.le_refl _) _), h2, bgrowD (put2_below7 hb hg _ _) _⟩
theorem two_d {v w : World} {x y : Int} {q r p : Bool} {qa ra sa : Option Addr} {qn qc rn rc sn sc g : Nat} {qs rs : List Int} (hQ : Nums w qa qn qc qs) (hq : IsW q qs x) (hR : Nums w ra rn rc rs) (hr : IsW r rs y) (hb : Below v.heap.size v w)
    (c0 : w.cell? ⟨g, 0, none⟩ = some (.bool p)) (c1 : w.cell? ⟨g, 1, none⟩ = some (.slice sa sn sc)) (f0 : w.frozen? ⟨g, 0, none⟩ = false) (f1 : w.frozen? ⟨g, 1, none⟩ = false) (hg : v.heap.size ≤ g) :
    Two7 v x y (.pointer (some ⟨w.heap.size, 0, none⟩)) (.pointer (some ⟨g, 0, none⟩)) (((w.setCell ⟨g, 0, none⟩ (.bool r)).setCell ⟨g, 1, none⟩ (.slice ra rn rc)).alloc (.cells #[.bool q, .slice qa qn qc] 25)) := by
  obtain ⟨g1, g2, e1, e2, f1, f2, hb'⟩ := two_c hR hr hQ hq hb c0 c1 f0 f1 hg
  exact ⟨g2, g1, e2, e1, f2, f1, hb'⟩
theorem two_e {v w : World} {x y : Int} {q r p p' : Bool} {qa ra sa sa' : Option Addr} {qn qc rn rc sn sc sn' sc' g g' : Nat} {qs rs : List Int} (hQ : Nums w qa qn qc qs) (hq : IsW q qs x) (hR : Nums w ra rn rc rs) (hr : IsW r rs y) (hb : Below v.heap.size v w)
    (c0 : w.cell? ⟨g, 0, none⟩ = some (.bool p)) (c1 : w.cell? ⟨g, 1, none⟩ = some (.slice sa sn sc)) (f0 : w.frozen? ⟨g, 0, none⟩ = false) (f1 : w.frozen? ⟨g, 1, none⟩ = false) (hg : v.heap.size ≤ g)
    (d0 : w.cell? ⟨g', 0, none⟩ = some (.bool p')) (d1 : w.cell? ⟨g', 1, none⟩ = some (.slice sa' sn' sc')) (e0 : w.frozen? ⟨g', 0, none⟩ = false) (e1 : w.frozen? ⟨g', 1, none⟩ = false) (hg' : v.heap.size ≤ g') (hne : g' ≠ g) :
    Two7 v x y (.pointer (some ⟨g, 0, none⟩)) (.pointer (some ⟨g', 0, none⟩)) ((((w.setCell ⟨g, 0, none⟩ (.bool q)).setCell ⟨g, 1, none⟩ (.slice qa qn qc)).setCell ⟨g', 0, none⟩ (.bool r)).setCell ⟨g', 1, none⟩ (.slice ra rn rc)) := by
  have h1 := fac_put c0 c1 f0 f1 hQ hq.2.1 hq.2.2
  have k0 := (put2_other hne (.bool q) (.slice qa qn qc)).trans d0
  have k1 := (put2_other hne (.bool q) (.slice qa qn qc)).trans d1
  have h2 := fac_put k0 k1 (by simp [e0]) (by simp [e1]) (hR.put2 c0 c1 (.bool q) (.slice qa qn qc)) hr.2.1 hr.2.2
  exact ⟨_, _, rfl, rfl, fac_keep7 (Ne.symm hne) k0 k1 h1 _ _, h2, put2_below7 (put2_below7 hb hg _ _) hg' _ _⟩

set_option maxRecDepth 20000 in
set_option maxHeartbeats 20000000 in
theorem r7unpack_any (a b : Option Addr) (la ca lb cb : Nat) (ns vs : List Int) (s : Int) (w : World) (hN : Nums w a la ca ns) (hV : Nums w b lb cb vs) :
    Calls Try.prog 20 #[.slice a la ca, .int .i64 s, .slice b lb cb] w fun e w' => PairT7 (upF ns s vs) (upG ns s vs) (upH ns s vs) w e w' := by
  have HM := (show Hid _ from r7may_any _ _ _ _ _ hN)
  cases hm : modB ns with
  | false =>
    rw [hm] at HM
    have HF : Hid (Told2 (upF ns s vs) (upG ns s vs) (upH ns s vs) 0 0 1) := .inl ⟨1, by unfold upF; rw [hm]; rfl, rfl, rfl, rfl⟩
    clear hN hV
    go_enter Try.func20, Try.ntmps20
    go_wp2_with fail
    refine Calls.mono HM.out ?_
    rintro e w1 ⟨rfl, hb1⟩
    clear HM
    go_wp2
    go_ret3
    exact ⟨0, 0, 1, rfl, HF.out, hb1⟩
  | true =>
  rw [hm] at HM
  by_cases hs1 : s < 1
  · have HF : Hid (Told2 (upF ns s vs) (upG ns s vs) (upH ns s vs) 0 0 1) := .inl ⟨1, by unfold upF shB; rw [hm, decide_eq_false (show ¬ 1 ≤ s by omega)]; rfl, rfl, rfl, rfl⟩
    clear hN hV
    go_enter Try.func20, Try.ntmps20
    go_wp2_with fail
    refine Calls.mono HM.out ?_
    rintro e w1 ⟨rfl, hb1⟩
    clear HM
    go_wp2
    go_ret3
    exact ⟨0, 0, 1, rfl, HF.out, hb1⟩
  by_cases hs2 : 62 < s
  · have HF : Hid (Told2 (upF ns s vs) (upG ns s vs) (upH ns s vs) 0 0 1) := .inl ⟨1, by unfold upF shB; rw [hm, decide_eq_false (show ¬ s ≤ 62 by omega), Bool.and_false]; rfl, rfl, rfl, rfl⟩
    have d1 : decide (s < 1) = false := decide_eq_false hs1
    clear hN hV
    go_enter Try.func20, Try.ntmps20
    go_wp2_with fail
    refine Calls.mono HM.out ?_
    rintro e w1 ⟨rfl, hb1⟩
    clear HM
    go_wp2
    go_ret3
    exact ⟨0, 0, 1, rfl, HF.out, hb1⟩
  have hsB : shB s = true := (shB_iff s).2 ⟨by omega, by omega⟩
  have d1 : decide (s < 1) = false := decide_eq_false hs1
  have d2 : decide (62 < s) = false := decide_eq_false hs2
  have hs0 : 0 ≤ s ∧ s ≤ 62 := by omega
  obtain ⟨P, hP⟩ : ∃ P : Int, P = 2 ^ s.toNat := ⟨_, rfl⟩
  have hP1 := pow62 hs0
  rw [← hP] at hP1
  have HPw : Hid (∀ wx, Calls Try.prog 40 #[.int .i64 s] wx fun e w' => TellsW P wx e w') := fun wx => by
    have := r7power_any s wx hs0
    rw [← hP] at this
    exact this
  have HG : Hid (upG ns s vs = dcV (nv ns) (nv vs) / P ∧ upH ns s vs = dcV (nv ns) (nv vs) % P) := by
    show _ ∧ _
    unfold upG upH
    rw [← hP]
    exact ⟨rfl, rfl⟩
  clear hP hs0
  go_enter Try.func20, Try.ntmps20
  go_wp2_with fail
  refine Calls.mono HM.out ?_
  rintro e w1 ⟨rfl, hb1⟩
  clear HM
  have k := hN.below hb1
  have k' := hV.below hb1
  clear hN hV
  have hnb : (nv ns : Int) < 18446744073709551616 ^ 8 := mod_bd k.digs hm
  go_wp2_with fail
  refine (r7decode_any _ _ _ _ _ _ _ _ _ k k').mono ?_
  rintro e v ⟨xn, xa, xl, xc, xs, xe, rfl, hX, hT, hb2⟩
  have hBv := hb1.trans (hb2.mono hb1.size)
  clear k k' hb1 hb2
  rcases hT with ⟨e, hf, rfl, rfl, rfl⟩ | ⟨hf, hxW, rfl⟩
  · have hne : (xe != 0) = true := by have := dcF_ne hf; simpa using this
    have HF : Hid (Told2 (upF ns s vs) (upG ns s vs) (upH ns s vs) 0 0 xe) := .inl ⟨xe, up_bad hm hsB hf, rfl, rfl, rfl⟩
    have hB := hBv.alloc hBv.size (.cells #[.bool false, .slice xa xl xc] 25)
    clear hf hX HPw HG hP1 hnb
    go_wp2
    go_ret3
    exact ⟨0, 0, xe, rfl, HF.out, hB⟩
  · have hup := up_good hm hsB hf
    have hvl : nv vs < nv ns := by
      unfold dcF at hf
      rw [hm] at hf
      by_cases c : nv vs < nv ns
      · exact c
      · rw [decide_eq_false c, Bool.and_false] at hf; cases hf
    obtain ⟨x, hx⟩ : ∃ x, x = dcV (nv ns) (nv vs) := ⟨_, rfl⟩
    rw [← hx] at hxW HG
    have hxb : (x.natAbs : Int) < 18446744073709551616 ^ 63 := by
      have h1 : (18446744073709551616 : Int) ^ 8 < 18446744073709551616 ^ 63 := by decide
      rw [hx]
      unfold dcV
      split <;> omega
    rw [HG.out.1] at hup
    have HUp : Hid (upF ns s vs = if fitB (x / P) then none else some 12) := hup
    have HXB : Hid ((x.natAbs : Int) < 18446744073709551616 ^ 63) := hxb
    clear hup hx hf hvl hnb hxb
    have hVV := (Below.refl v.heap.size v).alloc (Nat.le_refl _) (.cells #[.bool xn, .slice xa xl xc] 25)
    have c0 : (v.alloc (.cells #[.bool xn, .slice xa xl xc] 25)).cell? ⟨v.heap.size, 0, none⟩ = some (.bool xn) := by simp
    have c1 : (v.alloc (.cells #[.bool xn, .slice xa xl xc] 25)).cell? ⟨v.heap.size, 1, none⟩ = some (.slice xa xl xc) := by simp
    have hXV := hX.below hVV
    go_upto_region 7 with fail
    generalize v.alloc (.cells #[.bool xn, .slice xa xl xc] 25) = V at *
    have hgV : v.heap.size < V.heap.size := World.block_lt_of_cell? _ _ c0
    obtain ⟨g, hge⟩ : ∃ g, g = v.heap.size := ⟨_, rfl⟩
    rw [← hge] at c0 c1 hgV
    rw [← hge]
    have HVV : Hid (Below v.heap.size v V) := hVV
    have HRB : Hid (U7 V xa xl xc xs V) := ⟨hXV, Below.refl _ _⟩
    have HFr : Hid (∀ wx, U7 V xa xl xc xs wx → Calls Try.prog 40 #[.int .i64 s] wx fun e w' => ∃ ya yn yc, e = .returned (.agg #[.bool false, .slice ya yn yc]) ∧ Hid ((∃ ys, Nums w' ya yn yc ys ∧ IsW false ys P) ∧ U7 V xa xl xc xs w') ∧ (w'.cell? ⟨g, 0, none⟩ = some (.bool xn) ∧ w'.cell? ⟨g, 1, none⟩ = some (.slice xa xl xc) ∧ g < w'.heap.size) ∧ (∀ b o, b < wx.heap.size → w'.cell? ⟨b, o, none⟩ = wx.cell? ⟨b, o, none⟩) ∧ (∀ b o, b < wx.heap.size → w'.frozen? ⟨b, o, none⟩ = wx.frozen? ⟨b, o, none⟩) ∧ (∀ b, b < wx.heap.size → b < w'.heap.size)) := by
      intro wx hbx
      refine (HPw.out wx).mono ?_
      rintro e w' ⟨pn, ya, yn, yc, ys, rfl, hY, hyW, hb⟩
      obtain rfl : pn = false := by rw [hyW.sign]; exact decide_eq_false (by omega)
      have hu := hbx.below hb
      exact ⟨ya, yn, yc, rfl, ⟨⟨ys, hY, hyW⟩, hu⟩, ⟨bkeep hu.hb c0 rfl, bkeep hu.hb c1 rfl, Nat.lt_of_lt_of_le hgV hu.hb.size⟩, bfactsD hb⟩
    have HFl : Hid (∀ wx ya yn yc, (∃ ys, Nums wx ya yn yc ys ∧ IsW false ys P) → U7 V xa xl xc xs wx → Calls Try.prog 45 #[.agg #[.bool xn, .slice xa xl xc], .agg #[.bool false, .slice ya yn yc]] wx fun e w' => ∃ q qa qn qc r ra rn rc, e = .returned (.tuple #[.agg #[.bool q, .slice qa qn qc], .agg #[.bool r, .slice ra rn rc], .int .i64 0]) ∧ Hid ((∃ qs, Nums w' qa qn qc qs ∧ IsW q qs (x / P)) ∧ (∃ rs, Nums w' ra rn rc rs ∧ IsW r rs (x % P)) ∧ Below V.heap.size V w') ∧ (w'.cell? ⟨g, 0, none⟩ = some (.bool xn) ∧ w'.cell? ⟨g, 1, none⟩ = some (.slice xa xl xc) ∧ g < w'.heap.size) ∧ (∀ b o, b < wx.heap.size → w'.cell? ⟨b, o, none⟩ = wx.cell? ⟨b, o, none⟩) ∧ (∀ b o, b < wx.heap.size → w'.frozen? ⟨b, o, none⟩ = wx.frozen? ⟨b, o, none⟩) ∧ (∀ b, b < wx.heap.size → b < w'.heap.size)) := by
      rintro wx ya yn yc ⟨ys, hy, hyW⟩ hbx
      refine (refIFloor_any xn false _ _ _ _ _ _ _ _ wx hbx.hf hy).mono ?_
      rintro e w' ⟨q, qa, qn, qc, qs, r, ra, rn, rc, rs, err, rfl, ⟨hQ, hR⟩, hF, hb⟩
      obtain ⟨rfl, f1, f2⟩ := floor_isW hxW hyW (by omega) HXB.out hF
      have hu := hbx.below hb
      exact ⟨q, qa, qn, qc, r, ra, rn, rc, rfl, ⟨⟨qs, hQ, f1⟩, ⟨rs, hR, f2⟩, hu.hb⟩, ⟨bkeep hu.hb c0 rfl, bkeep hu.hb c1 rfl, Nat.lt_of_lt_of_le hgV hu.hb.size⟩, bfactsD hb⟩
    go_cut [12, 13] (fun p12 p13 wx => Two7 V (x / P) (x % P) p12 p13 wx)
    case first =>
      clear HUp HG hX hXV hxW HXB hBv HPw hP1 hsB d1 d2 hm hs1 hs2 hVV HVV hge
      have ne0 := World.new_ne V ⟨g, 0, none⟩ c0
      go_region_held3 (fun w' => w'.cell? ⟨g, 0, none⟩ = some (.bool xn) ∧ w'.cell? ⟨g, 1, none⟩ = some (.slice xa xl xc)) (first | go_keep | exact ⟨o0, o1⟩ | exact ⟨n0, n1⟩ | exact ⟨(put2_other (by omega) _ _).trans o0, (put2_other (by omega) _ _).trans o1⟩ | exact ⟨(put2_other (by omega) _ _).trans ((put2_other (by omega) _ _).trans o0), (put2_other (by omega) _ _).trans ((put2_other (by omega) _ _).trans o1)⟩)
        (first
        | (go_at_call 40; refine (HFr.out _ ?_).mono ?_; (focus (repeat (first | exact HRB.out | refine U7.drew ?_ | refine U7.alloc ?_ _))); rintro e w3 ⟨ya, yn, yc, rfl, hY, ⟨n0, n1, n2⟩, hc3, hf3, hs3⟩; have ne3 := World.new_ne w3 ⟨g, 0, none⟩ n0; (try have k30 := hs3 (V.heap.size) (by first | omega | (simp; done) | (simp; omega))); (try have m300 := hc3 (V.heap.size) 0 (by first | omega | (simp; done) | (simp; omega))); (try have f300 := hf3 (V.heap.size) 0 (by first | omega | (simp; done) | (simp; omega))); (try have m301 := hc3 (V.heap.size) 1 (by first | omega | (simp; done) | (simp; omega))); (try have f301 := hf3 (V.heap.size) 1 (by first | omega | (simp; done) | (simp; omega))); (try have k31 := hs3 (V.heap.size + 1) (by first | omega | (simp; done) | (simp; omega))); (try have m310 := hc3 (V.heap.size + 1) 0 (by first | omega | (simp; done) | (simp; omega))); (try have f310 := hf3 (V.heap.size + 1) 0 (by first | omega | (simp; done) | (simp; omega))); (try have m311 := hc3 (V.heap.size + 1) 1 (by first | omega | (simp; done) | (simp; omega))); (try have f311 := hf3 (V.heap.size + 1) 1 (by first | omega | (simp; done) | (simp; omega))); clear hc3 hf3 hs3)
        | (go_at_call 45; refine (HFl.out _ ya yn yc ?_ ?_).mono ?_; (obtain ⟨⟨ys, hys, hyw⟩, -⟩ := hY.out; refine ⟨ys, ?_, hyw⟩; (focus (repeat (first | exact hys | refine Nums.drawD ?_ | refine Nums.growD ?_ _)))); (focus (repeat (first | exact hY.out.2 | refine U7.drew ?_ | refine U7.alloc ?_ _))); rintro e w4 ⟨q, qa, qn, qc, r, ra, rn, rc, rfl, hR, ⟨o0, o1, o2⟩, hc4, hf4, hs4⟩; have ne4 := World.new_ne w4 ⟨g, 0, none⟩ o0; (try have k40 := hs4 (V.heap.size) (by first | omega | (simp; done) | (simp; omega))); (try have m400 := hc4 (V.heap.size) 0 (by first | omega | (simp; done) | (simp; omega))); (try have f400 := hf4 (V.heap.size) 0 (by first | omega | (simp; done) | (simp; omega))); (try have m401 := hc4 (V.heap.size) 1 (by first | omega | (simp; done) | (simp; omega))); (try have f401 := hf4 (V.heap.size) 1 (by first | omega | (simp; done) | (simp; omega))); (try have k41 := hs4 (V.heap.size + 1) (by first | omega | (simp; done) | (simp; omega))); (try have m410 := hc4 (V.heap.size + 1) 0 (by first | omega | (simp; done) | (simp; omega))); (try have f410 := hf4 (V.heap.size + 1) 0 (by first | omega | (simp; done) | (simp; omega))); (try have m411 := hc4 (V.heap.size + 1) 1 (by first | omega | (simp; done) | (simp; omega))); (try have f411 := hf4 (V.heap.size + 1) 1 (by first | omega | (simp; done) | (simp; omega))); (try have k42 := hs4 (w3.heap.size) (by first | omega | (simp; done) | (simp; omega))); (try have m420 := hc4 (w3.heap.size) 0 (by first | omega | (simp; done) | (simp; omega))); (try have f420 := hf4 (w3.heap.size) 0 (by first | omega | (simp; done) | (simp; omega))); (try have m421 := hc4 (w3.heap.size) 1 (by first | omega | (simp; done) | (simp; omega))); (try have f421 := hf4 (w3.heap.size) 1 (by first | omega | (simp; done) | (simp; omega))); (try have k43 := hs4 (w3.heap.size + 1) (by first | omega | (simp; done) | (simp; omega))); (try have m430 := hc4 (w3.heap.size + 1) 0 (by first | omega | (simp; done) | (simp; omega))); (try have f430 := hf4 (w3.heap.size + 1) 0 (by first | omega | (simp; done) | (simp; omega))); (try have m431 := hc4 (w3.heap.size + 1) 1 (by first | omega | (simp; done) | (simp; omega))); (try have f431 := hf4 (w3.heap.size + 1) 1 (by first | omega | (simp; done) | (simp; omega))); clear hc4 hf4 hs4))
      all_goals
        have hz4 := hR.out.2.2.size
        have hz3 := hY.out.2.hb.size
        clear HFr HFl HRB
        go_wp2_with fail
        go_meet
        case rel =>
          obtain ⟨⟨qs, hQ, hqW⟩, ⟨rs, hRr, hrW⟩, hbM⟩ := hR.out
          first
            | with_reducible exact two_a hQ hqW hRr hrW hbM
            | with_reducible exact two_b hQ hqW hRr hrW hbM
            | (with_reducible refine two_c (p := false) (sa := none) (sn := 0) (sc := 0) hQ hqW hRr hrW hbM ?_ ?_ ?_ ?_ ?_
               · go_simp
               · go_simp
               · go_simp
               · go_simp
               · first | omega | (simp; done) | (simp; omega))
            | (with_reducible refine two_d (p := false) (sa := none) (sn := 0) (sc := 0) hQ hqW hRr hrW hbM ?_ ?_ ?_ ?_ ?_
               · go_simp
               · go_simp
               · go_simp
               · go_simp
               · first | omega | (simp; done) | (simp; omega))
            | (with_reducible refine two_e (p := false) (sa := none) (sn := 0) (sc := 0) (p' := false) (sa' := none) (sn' := 0) (sc' := 0) hQ hqW hRr hrW hbM ?_ ?_ ?_ ?_ ?_ ?_ ?_ ?_ ?_ ?_ ?_
               · go_simp
               · go_simp
               · go_simp
               · go_simp
               · first | omega | (simp; done) | (simp; omega)
               · go_simp
               · go_simp
               · go_simp
               · go_simp
               · first | omega | (simp; done) | (simp; omega)
               · first | omega | (simp; done) | (simp; omega))
    case rest =>
      obtain ⟨g1, g2, rfl, rfl, F1, F2, hbc⟩ := hcut
      have hvc := HVV.out.trans (hbc.mono HVV.out.size)
      have hBc := hBv.trans (hvc.mono hBv.size)
      clear HFr HFl HRB hBv hbc hvc hX hXV hxW HXB HPw HVV hge hgV
      clear c0 c1
      obtain ⟨qp, qa, qn, qc, qs, ⟨c0, c1⟩, -, hQ, hq1, hq2⟩ := F1
      have hqW : IsW qp qs (x / P) := ⟨hQ.digs, hq1, hq2⟩
      have HS := (show Hid _ from refISmall_any qp _ _ _ _ _ hQ)
      obtain ⟨s1, s2⟩ := hqW.small
      cases hfit : fitB (x / P) with
      | false =>
        rw [s1, hfit] at HS
        obtain ⟨z, hz⟩ : ∃ z, z = ismZ qp qs := ⟨_, rfl⟩
        rw [← hz] at HS
        have HF : Hid (Told2 (upF ns s vs) (upG ns s vs) (upH ns s vs) 0 0 12) := .inl ⟨12, by rw [HUp.out, hfit]; rfl, rfl, rfl, rfl⟩
        clear hz s1 s2 hQ hq1 hq2 hqW F2 HUp HG hP1
        go_wp2_with fail
        refine Calls.mono HS.out ?_
        rintro e w8 ⟨rfl, hb8⟩
        have hB8 := hBc.trans (hb8.mono hBc.size)
        clear HS hBc hb8 c0 c1
        go_wp2
        go_ret3
        exact ⟨0, 0, 12, rfl, HF.out, hB8⟩
      | true =>
        rw [s1, hfit, s2 hfit] at HS
        have hP0 : 0 < P := by omega
        have hr0 := Int.emod_nonneg x (show P ≠ 0 by omega)
        have hr1 := Int.emod_lt_of_pos x hP0
        have HF : Hid (Told2 (upF ns s vs) (upG ns s vs) (upH ns s vs) (x / P) (x % P) 0) := .inr ⟨by rw [HUp.out, hfit]; rfl, HG.out.1.symm, HG.out.2.symm, rfl⟩
        have hfr : fitB (x % P) = true := (fitB_iff _).2 ⟨by omega, by omega⟩
        clear s1 s2 hQ hq1 hq2 hqW HUp HG
        obtain ⟨X, hX⟩ : ∃ X, X = x / P := ⟨_, rfl⟩
        obtain ⟨Y, hY⟩ : ∃ Y, Y = x % P := ⟨_, rfl⟩
        rw [← hX, ← hY] at HF
        rw [← hX] at HS
        rw [← hY] at F2 hfr
        clear hX hY hr0 hr1 hfit hP1 hP0
        go_wp2_with fail
        refine Calls.mono HS.out ?_
        rintro e w8 ⟨rfl, hb8⟩
        have hB8 := hBc.trans (hb8.mono hBc.size)
        replace F2 := F2.below hb8
        clear HS hBc hb8 c0 c1
        obtain ⟨rp, ra, rn, rc, rs, ⟨d0, d1⟩, -, hRr, hr1, hr2⟩ := F2
        have hrW : IsW rp rs Y := ⟨hRr.digs, hr1, hr2⟩
        have HS2 := (show Hid _ from refISmall_any rp _ _ _ _ _ hRr)
        rw [hrW.small.1, hfr, hrW.small.2 hfr] at HS2
        clear hrW hRr hr1 hr2 hfr
        go_wp2_with fail
        refine Calls.mono HS2.out ?_
        rintro e w9 ⟨rfl, hb9⟩
        have hB9 := hB8.trans (hb9.mono hB8.size)
        clear HS2 hB8 hb9 d0 d1
        go_wp2
        go_ret3
        exact ⟨X, Y, 0, rfl, HF.out, hB9⟩
end Go.Proofs.Ytambpcgdaogojaa

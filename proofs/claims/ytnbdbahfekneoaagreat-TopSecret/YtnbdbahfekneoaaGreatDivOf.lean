/-
  The contract of modint.divisorOf.
-/
import Derived.Test.YtnbdbahfekneoaaGreatEucA
import Derived.Test.YtnbdbahfekneoaaGreatModB
import Derived.Deep.LoopGhost
import Derived.Deep.CutRange
import Derived.Deep.RegionWith
import Derived.BigRegion
namespace Go.Proofs.YtnbdbahfekneoaaGreat
open Go.RowKit

theorem fromD {ns : List Int} (h : rightB ns = true) : fromL ns = ns ∧ fromN false ns = false := by
  have := right_from h false
  rw [Bool.false_and] at this
  exact this
theorem rightD {ns : List Int} (h : rightB ns = true) : rightI false ns = true := by simp [rightI, h]
theorem bfactsD {W w1 : World} (hb : Below W.heap.size W w1) : (∀ b o, b < W.heap.size → w1.cell? ⟨b, o, none⟩ = W.cell? ⟨b, o, none⟩) ∧ (∀ b o, b < W.heap.size → w1.frozen? ⟨b, o, none⟩ = W.frozen? ⟨b, o, none⟩) ∧ ∀ b, b < W.heap.size → b < w1.heap.size :=
  ⟨(bcell hb).1, (bcell hb).2, fun _ h => Nat.lt_of_lt_of_le h hb.size⟩
theorem Nums.growD {w : World} {a : Option Addr} {n c : Nat} {L : List Int} (h : Nums w a n c L) (o : Obj) : Nums (w.alloc o) a n c L := h.below ((Below.refl _ _).alloc (Nat.le_refl _) o)
theorem Nums.drawD {w : World} {a : Option Addr} {n c : Nat} {L : List Int} (h : Nums w a n c L) : Nums w.drew a n c L := h.alike (fun _ => rfl)
theorem bgrowD {V w : World} (h : Below V.heap.size V w) (o : Obj) : Below V.heap.size V (w.alloc o) := h.alloc h.size o
theorem bdrawD {V w : World} (h : Below V.heap.size V w) : Below V.heap.size V w.drew := ⟨h.os, h.tape, h.output, h.size, h.block⟩

theorem DPre.below {w w' : World} {ga gb g6 g7 : Nat} {n a G : Int} {k : Nat} (h : DPre w ga gb g6 g7 n a G k) (hb : Below w.heap.size w w') : DPre w' ga gb g6 g7 n a G k := by
  obtain ⟨xa, xn, xc, xs, ya, yn, yc, ys, s, t, E, ⟨hx, hy⟩, hr, ⟨f6, f7⟩, rest⟩ := h
  exact ⟨xa, xn, xc, xs, ya, yn, yc, ys, s, t, E.below hb, ⟨hx.below hb, hy.below hb⟩, hr, ⟨f6.below hb, f7.below hb⟩, rest⟩

/-- The result's cell. -/
def Cell5 (w : World) (g : Nat) : Prop := (w.cell? ⟨g, 0, none⟩ = some (.bool false) ∧ w.cell? ⟨g, 1, none⟩ = some (.slice none 0 0)) ∧ w.frozen? ⟨g, 0, none⟩ = false ∧ w.frozen? ⟨g, 1, none⟩ = false
theorem Cell5.below {w w' : World} {g : Nat} (h : Cell5 w g) (hb : Below w.heap.size w w') : Cell5 w' g :=
  ⟨⟨bkeep hb h.1.1 rfl, bkeep hb h.1.2 rfl⟩, (hb.frozen (p := ⟨g, 0, none⟩) (World.block_lt_of_cell? _ _ h.1.1)).trans h.2.1, (hb.frozen (p := ⟨g, 1, none⟩) (World.block_lt_of_cell? _ _ h.1.2)).trans h.2.2⟩

theorem fac_alloc {w : World} {p : Bool} {a : Option Addr} {n c : Nat} {L : List Int} {v : Int} (h : Nums w a n c L) (hr : rightI p L = true) (hv : iv p L = v) : Fac (w.alloc (.cells #[.bool p, .slice a n c] 123)) w.heap.size v :=
  ⟨p, a, n, c, L, ⟨by simp, by simp⟩, ⟨by simp, by simp⟩, h.growD _, hr, hv⟩
theorem fac_put {w : World} {g : Nat} {q p : Bool} {sa a : Option Addr} {sn sc n c : Nat} {L : List Int} {v : Int} (c0 : w.cell? ⟨g, 0, none⟩ = some (.bool q)) (c1 : w.cell? ⟨g, 1, none⟩ = some (.slice sa sn sc)) (f0 : w.frozen? ⟨g, 0, none⟩ = false) (f1 : w.frozen? ⟨g, 1, none⟩ = false) (h : Nums w a n c L) (hr : rightI p L = true) (hv : iv p L = v) :
    Fac ((w.setCell ⟨g, 0, none⟩ (.bool p)).setCell ⟨g, 1, none⟩ (.slice a n c)) g v := by
  refine ⟨p, a, n, c, L, ⟨?_, ?_⟩, ⟨by simp [f0], by simp [f1]⟩, h.put2 c0 c1 _ _, hr, hv⟩
  · rw [World.cell?_setCell_other _ _ _ _ (by intro e; cases e)]; exact World.cell?_setCell_same _ _ _ c0
  · refine World.cell?_setCell_same _ _ _ (u := .slice sa sn sc) ?_; rw [World.cell?_setCell_other _ _ _ _ (by intro e; cases e)]; exact c1

theorem put4_other {w : World} {g g' h i : Nat} (h1 : h ≠ g) (h2 : h ≠ g') (x y x' y' : Value) : ((((w.setCell ⟨g, 0, none⟩ x).setCell ⟨g, 1, none⟩ y).setCell ⟨g', 0, none⟩ x').setCell ⟨g', 1, none⟩ y').cell? ⟨h, i, none⟩ = w.cell? ⟨h, i, none⟩ :=
  (put2_other h2 _ _).trans (put2_other h1 _ _)

/-- The two factors are laid one on. -/
theorem dswap {U : World} {g6 g7 : Nat} (hne : g7 ≠ g6) {s t s' : Int} (F6 : Fac U g6 s) {tp : Bool} {ta : Option Addr} {tn tc : Nat} {tl : List Int} (d0 : U.cell? ⟨g7, 0, none⟩ = some (.bool tp)) (d1 : U.cell? ⟨g7, 1, none⟩ = some (.slice ta tn tc)) (e0 : U.frozen? ⟨g7, 0, none⟩ = false) (e1 : U.frozen? ⟨g7, 1, none⟩ = false) (hT : Nums U ta tn tc tl) (rT : rightI tp tl = true) (vT : iv tp tl = t)
    {sp : Bool} {sa : Option Addr} {sn sc : Nat} {sl : List Int} (hS : Nums U sa sn sc sl) (rS : rightI sp sl = true) (vS : iv sp sl = s') :
    (Fac ((((U.setCell ⟨g6, 0, none⟩ (.bool tp)).setCell ⟨g6, 1, none⟩ (.slice ta tn tc)).setCell ⟨g7, 0, none⟩ (.bool sp)).setCell ⟨g7, 1, none⟩ (.slice sa sn sc)) g6 t ∧ Fac ((((U.setCell ⟨g6, 0, none⟩ (.bool tp)).setCell ⟨g6, 1, none⟩ (.slice ta tn tc)).setCell ⟨g7, 0, none⟩ (.bool sp)).setCell ⟨g7, 1, none⟩ (.slice sa sn sc)) g7 s') ∧
    (∀ a n c L, Nums U a n c L → Nums ((((U.setCell ⟨g6, 0, none⟩ (.bool tp)).setCell ⟨g6, 1, none⟩ (.slice ta tn tc)).setCell ⟨g7, 0, none⟩ (.bool sp)).setCell ⟨g7, 1, none⟩ (.slice sa sn sc)) a n c L) ∧
    (∀ ga gb xa xn xc ya yn yc, ga ≠ g6 → ga ≠ g7 → gb ≠ g6 → gb ≠ g7 → EucAt U ga gb xa xn xc ya yn yc → EucAt ((((U.setCell ⟨g6, 0, none⟩ (.bool tp)).setCell ⟨g6, 1, none⟩ (.slice ta tn tc)).setCell ⟨g7, 0, none⟩ (.bool sp)).setCell ⟨g7, 1, none⟩ (.slice sa sn sc)) ga gb xa xn xc ya yn yc) ∧
    ∀ g5, g5 ≠ g6 → g5 ≠ g7 → Cell5 U g5 → Cell5 ((((U.setCell ⟨g6, 0, none⟩ (.bool tp)).setCell ⟨g6, 1, none⟩ (.slice ta tn tc)).setCell ⟨g7, 0, none⟩ (.bool sp)).setCell ⟨g7, 1, none⟩ (.slice sa sn sc)) g5 := by
  obtain ⟨p, a, n, c, L, ⟨c0, c1⟩, ⟨f0, f1⟩, hn, hr, hv⟩ := F6
  obtain ⟨⟨x0, x1⟩, y0, y1⟩ := put4_cells hne c0 c1 d0 d1 (.bool tp) (.slice ta tn tc) (.bool sp) (.slice sa sn sc)
  refine ⟨⟨⟨tp, ta, tn, tc, tl, ⟨x0, x1⟩, ⟨by simp [f0], by simp [f1]⟩, hT.put4 hne c0 c1 d0 d1 _ _ _ _, rT, vT⟩, ⟨sp, sa, sn, sc, sl, ⟨y0, y1⟩, ⟨by simp [e0], by simp [e1]⟩, hS.put4 hne c0 c1 d0 d1 _ _ _ _, rS, vS⟩⟩, ?_, ?_, ?_⟩
  · intro a n c L hn
    exact hn.put4 hne c0 c1 d0 d1 _ _ _ _
  · intro ga gb xa xn xc ya yn yc h1 h2 h3 h4 E
    exact ⟨E.ne, (put4_other h1 h2 _ _ _ _).trans E.a, (put4_other h3 h4 _ _ _ _).trans E.b, by simp [E.fa], by simp [E.fb]⟩
  · intro g5 h1 h2 hC
    exact ⟨⟨(put4_other h1 h2 _ _ _ _).trans hC.1.1, (put4_other h1 h2 _ _ _ _).trans hC.1.2⟩, by simp [hC.2.1], by simp [hC.2.2]⟩

theorem facs_made {v1 : World} {oa ob : Option Addr} {on om oc od : Nat} (h0 : Nums v1 oa on oc (ofZ (sz 0))) (h1 : Nums v1 ob om od (ofZ (sz 1))) :
    Fac ((v1.alloc (.cells #[.bool false, .slice oa on oc] 123)).alloc (.cells #[.bool false, .slice ob om od] 123)) v1.heap.size 0 ∧
    Fac ((v1.alloc (.cells #[.bool false, .slice oa on oc] 123)).alloc (.cells #[.bool false, .slice ob om od] 123)) (v1.heap.size + 1) 1 := by
  have hB := ((Below.refl v1.heap.size v1).alloc (Nat.le_refl _) (.cells #[.bool false, .slice oa on oc] 123)).alloc (by simp) (.cells #[.bool false, .slice ob om od] 123)
  obtain ⟨⟨c0, c1⟩, ⟨d0, d1⟩, ⟨f0, f1⟩, g0, g1⟩ := held22 (Below.refl ((v1.alloc (.cells #[.bool false, .slice oa on oc] 123)).alloc (.cells #[.bool false, .slice ob om od] 123)).heap.size ((v1.alloc (.cells #[.bool false, .slice oa on oc] 123)).alloc (.cells #[.bool false, .slice ob om od] 123)))
  exact ⟨⟨false, _, _, _, _, ⟨c0, c1⟩, ⟨f0, f1⟩, h0.below hB, by decide, by decide⟩, ⟨false, _, _, _, _, ⟨d0, d1⟩, ⟨g0, g1⟩, h1.below hB, by decide, by decide⟩⟩

set_option maxHeartbeats 8000000 in
theorem divisorOf_any (a b : Option Addr) (la ca lb cb : Nat) (zs ns : List Int) (w : World) (h : Nums w a la ca zs) (h' : Nums w b lb cb ns) (hr : rightB zs = true) (hn : rightB ns = true) :
    Calls Tryz.prog 81 #[.slice a la ca, .slice b lb cb] w fun e w' => ∃ ta tn tc L p fa fn fc fs, e = .returned (.tuple #[.slice ta tn tc, .agg #[.bool p, .slice fa fn fc]]) ∧ (Nums w' ta tn tc L ∧ Nums w' fa fn fc fs) ∧ (rightB L = true ∧ rightI p fs = true) ∧ val 18446744073709551616 L = gz (val 18446744073709551616 ns) (val 18446744073709551616 zs) ∧
      (val 18446744073709551616 zs * iv p fs - val 18446744073709551616 L) % val 18446744073709551616 ns = 0 ∧ Below w.heap.size w w' := by
  obtain ⟨G, hG⟩ : ∃ G, G = gz (val 18446744073709551616 ns) (val 18446744073709551616 zs) := ⟨_, rfl⟩
  obtain ⟨N, hN⟩ : ∃ N, N = val 18446744073709551616 ns := ⟨_, rfl⟩
  obtain ⟨A, hA⟩ : ∃ A, A = val 18446744073709551616 zs := ⟨_, rfl⟩
  have HG : Hid (G = gz (val 18446744073709551616 ns) (val 18446744073709551616 zs) ∧ N = val 18446744073709551616 ns ∧ A = val 18446744073709551616 zs) := ⟨hG, hN, hA⟩
  have hN64 : N < 18446744073709551616 ^ 64 := by rw [hN]; exact val_64 h'.digs hn
  have HN : Hid (N < 18446744073709551616 ^ 64) := hN64
  clear hG hN hA hN64
  have hB0 := (Below.refl w.heap.size w).alloc (Nat.le_refl _) (.cells #[.bool false, .slice none 0 0] 123)
  have H := h.below hB0
  have H' := h'.below hB0
  have HC5 : Hid (Cell5 (w.alloc (.cells #[.bool false, .slice none 0 0] 123)) w.heap.size) := ⟨⟨by simp, by simp⟩, by simp, by simp⟩
  go_enter Tryz.func81, Tryz.ntmps81
  go_wp2_with fail
  refine (iof_any 0 _ (by omega)).mono ?_
  rintro e v0 ⟨oa, on, oc, rfl, hO, hb⟩
  replace H := H.below hb
  replace H' := H'.below hb
  replace HC5 : Hid (Cell5 v0 w.heap.size) := HC5.out.below hb
  have hB1 := hB0.trans (hb.mono hB0.size)
  clear hB0 hb
  go_wp2_with fail
  refine (iof_any 1 _ (by omega)).mono ?_
  rintro e v1 ⟨ob, om, od, rfl, hI, hb⟩
  replace H := H.below hb
  replace H' := H'.below hb
  replace hO := hO.below hb
  replace HC5 : Hid (Cell5 v1 w.heap.size) := HC5.out.below hb
  have hB2 := hB1.trans (hb.mono hB1.size)
  have hsz1 : w.heap.size < v1.heap.size := World.block_lt_of_cell? _ _ HC5.out.1.1
  clear hB1 hb
  have hV := ((Below.refl v1.heap.size v1).alloc (Nat.le_refl _) (.cells #[.bool false, .slice oa on oc] 123)).alloc (by simp) (.cells #[.bool false, .slice ob om od] 123)
  have HF : Hid _ := facs_made hO hI
  replace H := H.below hV
  replace H' := H'.below hV
  replace HC5 : Hid (Cell5 ((v1.alloc (.cells #[.bool false, .slice oa on oc] 123)).alloc (.cells #[.bool false, .slice ob om od] 123)) w.heap.size) := HC5.out.below hV
  have hB3 := hB2.trans (hV.mono hB2.size)
  have hszV : ((v1.alloc (.cells #[.bool false, .slice oa on oc] 123)).alloc (.cells #[.bool false, .slice ob om od] 123)).heap.size = v1.heap.size + 1 + 1 := by simp
  clear hO hI hB2 hV
  go_upto_region 2 with fail
  generalize (v1.alloc (.cells #[.bool false, .slice oa on oc] 123)).alloc (.cells #[.bool false, .slice ob om od] 123) = V at *
  obtain ⟨g6, hg6⟩ : ∃ g6, g6 = v1.heap.size := ⟨_, rfl⟩
  rw [← hg6] at HF hszV hsz1 ⊢
  clear hg6
  go_wp2_with fail
  refine (euclid_any _ _ _ _ _ _ _).mono ?_
  rintro e v2 ⟨ga, gb, rfl, ⟨hga, hgb⟩, E, hb⟩
  rw [hszV] at hga hgb
  have hPre : DPre v2 ga gb g6 (g6 + 1) N A G A.toNat :=
    ⟨b, lb, cb, ns, a, la, ca, zs, 0, 1, E, ⟨H'.below hb, H.below hb⟩, ⟨hn, hr⟩, ⟨HF.out.1.below hb, HF.out.2.below hb⟩, by rw [← HG.out.2.1, ← HG.out.2.2]; exact Bez.start _ _ _ (by simp), HG.out.1.symm, by rw [← HG.out.2.2]⟩
  replace HC5 : Hid (Cell5 v2 w.heap.size) := HC5.out.below hb
  have hB4 := hB3.trans (hb.mono hB3.size)
  clear E H H' HF hB3 hb h h' hr hn
  go_wp2_with fail
  refine (dstep_any ga gb g6 (g6 + 1) N A G A.toNat v2 w.heap.size hPre (by omega) (by omega) ⟨by omega, by omega⟩ ⟨by omega, by omega⟩).mono ?_
  rintro e v3 ⟨ta, tn, tc, m, rfl, hE, hOn, hkp, hb⟩
  have hC := HC5.out
  replace HC5 : Hid (Cell5 v3 w.heap.size) :=
    ⟨⟨(hkp _ _ _ (by omega) (by omega) hC.1.1).1, (hkp _ _ _ (by omega) (by omega) hC.1.2).1⟩, (hkp _ _ _ (by omega) (by omega) hC.1.1).2.trans hC.2.1, (hkp _ _ _ (by omega) (by omega) hC.1.2).2.trans hC.2.2⟩
  have hB5 := hB4.trans hb
  have HEO : Hid ((m = false → DEnd v3 g6 N A G ta tn tc) ∧ (m = true → ∃ k', k' < A.toNat ∧ DOn v3 ga gb g6 (g6 + 1) N A G k' ta tn tc)) := ⟨hE, hOn⟩
  clear hE hOn hkp hb hC hB4 hPre
  go_wp2_with fail
  go_loopg [9, 10] (A.toNat + 2) (fun k tv mv wr => ∃ ta tn tc m, tv = .slice ta tn tc ∧ mv = .bool m ∧ (m = false → DEnd wr g6 N A G ta tn tc) ∧ (m = true → ∃ k', k' + 1 < k ∧ DOn wr ga gb g6 (g6 + 1) N A G k' ta tn tc) ∧ Cell5 wr w.heap.size ∧ Below w.heap.size w wr)
  case atStart =>
    refine ⟨ta, tn, tc, m, rfl, rfl, HEO.out.1, fun h => ?_, HC5.out, hB5⟩
    obtain ⟨k', h1, h2⟩ := HEO.out.2 h
    exact ⟨k', by omega, h2⟩
  case round =>
    clear HEO HC5 hB5
    obtain ⟨ta, tn, tc, m, rfl, rfl, hE, hOn, hC5, hbr⟩ := hrel
    cases m with
    | false =>
      obtain ⟨L, s, hL, rL, vL, ⟨p, fa, fn, fc, fs, ⟨c0, c1⟩, ⟨f0, f1⟩, hF, rF, vF⟩, hmod⟩ := hE rfl
      obtain ⟨⟨d0, d1⟩, e0, e1⟩ := hC5
      have HM : Hid (val 18446744073709551616 L = G ∧ iv p fs = s ∧ (A * s - G) % N = 0) := ⟨vL, vF, hmod⟩
      clear hE hOn vL vF hmod
      have hne5 : g6 ≠ w.heap.size := by omega
      have hF5 := hF.put2 d0 d1 (.bool p) (.slice fa fn fc)
      have hL5 := hL.put2 d0 d1 (.bool p) (.slice fa fn fc)
      have hB6 := (hbr.setCell (p := ⟨w.heap.size, 0, none⟩) (Nat.le_refl _) (.bool p)).setCell (p := ⟨w.heap.size, 1, none⟩) (Nat.le_refl _) (.slice fa fn fc)
      have HK := (show Hid _ from And.intro hL5 (And.intro hF5 (And.intro hB6 (And.intro rL rF))))
      clear hL5 hF5 hB6 hL hF hbr
      go_wp2_with fail
      go_region
      all_goals
        go_wp2_with fail
        obtain ⟨hL5, hF5, hB6, rL, rF⟩ := HK.out
        have hM := HM.out
        refine bodyPost_ret (v := .tuple #[.slice ta tn tc, .agg #[.bool p, .slice fa fn fc]]) (by simp [results, Tryz.results81, go_sem, d0, d1]) rfl ⟨ta, tn, tc, L, p, fa, fn, fc, fs, rfl, ⟨hL5.alike (fun _ => rfl), hF5.alike (fun _ => rfl)⟩, ⟨rL, rF⟩, hM.1.trans HG.out.1, ?_, ⟨hB6.os, hB6.tape, hB6.output, hB6.size, hB6.block⟩⟩
        rw [← HG.out.2.1, ← HG.out.2.2, hM.2.1, hM.1]
        exact hM.2.2
    | true =>
      obtain ⟨k', hk', xa, xn, xc, xs, ya, yn, yc, ys, qs, s, t, E, ⟨hx, hy, hq⟩, ⟨rx, ry, rq⟩, ⟨F6, F7⟩, ⟨hx0, hyx⟩, hbz, hg, hk⟩ := hOn rfl
      have hqn := val_nonneg (B := 18446744073709551616) (by decide) hq.digs
      have hyn := val_nonneg (B := 18446744073709551616) (by decide) hy.digs
      obtain ⟨hbz2, hqt, hst⟩ := don_math hqn hx0 ⟨hyn, hyx⟩ hbz
      have HZ := (show Hid _ from And.intro hbz2 (And.intro hqt (And.intro hst (And.intro hg hk))))
      obtain ⟨tp, fa7, fn7, fc7, tl, ⟨c70, c71⟩, ⟨f70, f71⟩, hT, rT, vT⟩ := F7
      have HT : Hid (Nums wr fa7 fn7 fc7 tl ∧ rightI tp tl = true ∧ iv tp tl = t) := ⟨hT, rT, vT⟩
      have HE : Hid (EucAt wr ga gb xa xn xc ya yn yc ∧ (Nums wr xa xn xc xs ∧ Nums wr ya yn yc ys) ∧ (rightB xs = true ∧ rightB ys = true) ∧ Fac wr g6 s ∧ Cell5 wr w.heap.size ∧ Below w.heap.size w wr) := ⟨E, ⟨hx, hy⟩, ⟨rx, ry⟩, F6, hC5, hbr⟩
      have kr : g6 + 1 < wr.heap.size := World.block_lt_of_cell? _ _ c70
      have HFr : Hid (∀ wx, Below wr.heap.size wr wx → Calls Tryz.prog 120 #[.bool false, .slice ta tn tc] wx fun e w' => ∃ ya yn yc, e = .returned (.agg #[.bool false, .slice ya yn yc]) ∧ Hid (Nums w' ya yn yc qs ∧ Below wr.heap.size wr w') ∧ (w'.cell? ⟨g6 + 1, 0, none⟩ = some (.bool tp) ∧ w'.cell? ⟨g6 + 1, 1, none⟩ = some (.slice fa7 fn7 fc7)) ∧ g6 + 1 < w'.heap.size ∧
          (∀ b o, b < wx.heap.size → w'.cell? ⟨b, o, none⟩ = wx.cell? ⟨b, o, none⟩) ∧ (∀ b o, b < wx.heap.size → w'.frozen? ⟨b, o, none⟩ = wx.frozen? ⟨b, o, none⟩) ∧ (∀ b, b < wx.heap.size → b < w'.heap.size)) := by
        intro wx hbx
        refine (from_any false _ _ _ _ wx (hq.below hbx)).mono ?_
        rintro e w' ⟨ya, yn, yc, rfl, hY, hb⟩
        rw [(fromD rq).1] at hY
        rw [(fromD rq).2]
        have hb' := hbx.trans (hb.mono hbx.size)
        have q0 := bkeep hb' c70 rfl
        exact ⟨ya, yn, yc, rfl, ⟨hY, hb'⟩, ⟨q0, bkeep hb' c71 rfl⟩, World.block_lt_of_cell? _ _ q0, bfactsD hb⟩
      have HMu : Hid (∀ wx ya yn yc, Nums wx ya yn yc qs → Below wr.heap.size wr wx → Calls Tryz.prog 119 #[.agg #[.bool false, .slice ya yn yc], .agg #[.bool tp, .slice fa7 fn7 fc7]] wx fun e w' => ∃ mp ma mn mc, e = .returned (.tuple #[.agg #[.bool mp, .slice ma mn mc], .int .i64 0]) ∧ Hid (∃ ms, Nums w' ma mn mc ms ∧ rightI mp ms = true ∧ iv mp ms = val 18446744073709551616 qs * t ∧ Below wr.heap.size wr w') ∧
          (∀ b o, b < wx.heap.size → w'.cell? ⟨b, o, none⟩ = wx.cell? ⟨b, o, none⟩) ∧ (∀ b o, b < wx.heap.size → w'.frozen? ⟨b, o, none⟩ = wx.frozen? ⟨b, o, none⟩) ∧ (∀ b, b < wx.heap.size → b < w'.heap.size)) := by
        intro wx ya yn yc hY hbx
        refine (imul_any false tp _ _ _ _ _ _ _ _ wx hY (hT.below hbx)).mono ?_
        rintro e w' ⟨mp, ma, mn, mc, ms, err, rfl, hM, hres, hb⟩
        have hw := Res2I.got (rightD rq) rT hres
        rw [vT] at hw
        obtain ⟨rfl, g1, g2⟩ := ResW.fits (v := val 18446744073709551616 qs * t) hw hqt HN.out
        exact ⟨mp, ma, mn, mc, rfl, ⟨ms, hM, g2, g1, hbx.trans (hb.mono hbx.size)⟩, bfactsD hb⟩
      clear hOn hE hx hy hq F6 hC5 hbr E hbz hbz2 hqt hst hg hT hqn hyn hx0 hyx
      go_wp2_with fail
      go_cut [11] from 25 to 45 (fun pv wx => ∃ g11, pv = .pointer (some ⟨g11, 0, none⟩) ∧ Fac wx g11 (val 18446744073709551616 qs * t) ∧ Below wr.heap.size wr wx)
      case first =>
        clear HE HT HZ
        go_region_with (first
          | (go_at_call 120; refine (HFr.out _ ?_).mono ?_; (focus (repeat (first | exact Below.refl _ _ | refine bdrawD ?_ | refine bgrowD ?_ _))); rintro e w3 ⟨ya, yn, yc, rfl, hY, ⟨q0, q1⟩, kq, hc3, hf3, hs3⟩; (try have m30 := hc3 wr.heap.size 0 (by first | omega | (simp; done) | (simp; omega))); (try have m31 := hc3 wr.heap.size 1 (by first | omega | (simp; done) | (simp; omega))); (try have n30 := hf3 wr.heap.size 0 (by first | omega | (simp; done) | (simp; omega))); (try have n31 := hf3 wr.heap.size 1 (by first | omega | (simp; done) | (simp; omega))); (try have k3 := hs3 wr.heap.size (by first | omega | (simp; done) | (simp; omega))); clear hc3 hf3 hs3)
          | (go_at_call 119; refine (HMu.out _ ya yn yc ?_ ?_).mono ?_; (focus (repeat (first | exact hY.out.1 | refine Nums.drawD ?_ | refine Nums.growD ?_ _))); (focus (repeat (first | exact hY.out.2 | refine bdrawD ?_ | refine bgrowD ?_ _))); rintro e w4 ⟨mp, ma, mn, mc, rfl, hM, hc4, hf4, hs4⟩; (try have m40 := hc4 wr.heap.size 0 (by first | omega | (simp; done) | (simp; omega))); (try have m41 := hc4 wr.heap.size 1 (by first | omega | (simp; done) | (simp; omega))); (try have n40 := hf4 wr.heap.size 0 (by first | omega | (simp; done) | (simp; omega))); (try have n41 := hf4 wr.heap.size 1 (by first | omega | (simp; done) | (simp; omega))); (try have k4 := hs4 wr.heap.size (by first | omega | (simp; done) | (simp; omega))); (try have m42 := hc4 w3.heap.size 0 (by first | omega | (simp; done) | (simp; omega))); (try have m43 := hc4 w3.heap.size 1 (by first | omega | (simp; done) | (simp; omega))); (try have n42 := hf4 w3.heap.size 0 (by first | omega | (simp; done) | (simp; omega))); (try have n43 := hf4 w3.heap.size 1 (by first | omega | (simp; done) | (simp; omega))); clear hc4 hf4 hs4))
        all_goals
          clear HFr HMu
          go_wp2_with fail
          go_meet
          case rel =>
            obtain ⟨ms, hMs, rMs, vMs, hbM⟩ := hM.out
            have hz3 := hY.out.2.size
            first
              | exact ⟨_, rfl, fac_alloc hMs rMs vMs, bgrowD hbM _⟩
              | (refine ⟨_, rfl, fac_put (q := false) (sa := none) (sn := 0) (sc := 0) ?_ ?_ ?_ ?_ hMs rMs vMs, (hbM.setCell ?_ _).setCell ?_ _⟩
                 · go_simp
                 · go_simp
                 · go_simp
                 · go_simp
                 · first | (simp; done) | (simp; omega)
                 · first | (simp; done) | (simp; omega))
      case rest =>
        obtain ⟨g11, rfl, F11, hb5⟩ := hcut
        clear HFr HMu
        obtain ⟨E, ⟨hx, hy⟩, ⟨rx, ry⟩, F6, hC5, hbr⟩ := HE.out
        obtain ⟨hT, rT, vT⟩ := HT.out
        replace F6 := F6.below hb5
        replace E := E.below hb5
        replace hx := hx.below hb5
        replace hy := hy.below hb5
        replace hT := hT.below hb5
        replace hC5 := hC5.below hb5
        replace c70 := bkeep hb5 c70 rfl
        replace c71 := bkeep hb5 c71 rfl
        replace f70 := (hb5.frozen (p := ⟨g6 + 1, 0, none⟩) kr).trans f70
        replace f71 := (hb5.frozen (p := ⟨g6 + 1, 1, none⟩) kr).trans f71
        have hB5 := hbr.trans (hb5.mono hbr.size)
        clear HE HT hbr hb5 kr
        obtain ⟨sp, sa, sn, sc, sl, ⟨c60, c61⟩, ⟨f60, f61⟩, hS, rS, vS⟩ := F6
        obtain ⟨mp, ma, mn, mc, ml, ⟨c110, c111⟩, -, hM, rM, vM⟩ := F11
        have HV : Hid (iv sp sl = s ∧ iv mp ml = val 18446744073709551616 qs * t ∧ iv tp tl = t) := ⟨vS, vM, vT⟩
        have HKeep := (show Hid _ from And.intro E (And.intro hx (And.intro hy (And.intro hT hC5))))
        clear vS vM vT E hx hy hT hC5
        go_wp2_with fail
        refine (isub_any sp mp _ _ _ _ _ _ _ _ _ hS hM).mono ?_
        rintro e w6 ⟨q, na, nn, nc, nl, err, rfl, hN6, hres, hb6⟩
        have hw := Res2I.got rS rM hres
        rw [HV.out.1, HV.out.2.1] at hw
        obtain ⟨rfl, v13, r13⟩ := ResW.fits (v := s - val 18446744073709551616 qs * t) hw HZ.out.2.2.1 HN.out
        have HV13 : Hid (iv q nl = s - val 18446744073709551616 qs * t) := v13
        obtain ⟨E, hx, hy, hT, hC5⟩ := HKeep.out
        have hV := (Below.refl w6.heap.size w6).alloc (Nat.le_refl _) (.cells #[.bool q, .slice na nn nc] 123)
        have b7 := hb6.trans (hV.mono hb6.size)
        replace E := E.below b7
        replace hx := hx.below b7
        replace hy := hy.below b7
        replace hT := hT.below b7
        replace hC5 := hC5.below b7
        have F6 : Fac (w6.alloc (.cells #[.bool q, .slice na nn nc] 123)) g6 s := Fac.below ⟨sp, sa, sn, sc, sl, ⟨c60, c61⟩, ⟨f60, f61⟩, hS, rS, HV.out.1⟩ b7
        replace f60 := (b7.frozen (p := ⟨g6, 0, none⟩) (World.block_lt_of_cell? _ _ c60)).trans f60
        replace f61 := (b7.frozen (p := ⟨g6, 1, none⟩) (World.block_lt_of_cell? _ _ c61)).trans f61
        replace f70 := (b7.frozen (p := ⟨g6 + 1, 0, none⟩) (World.block_lt_of_cell? _ _ c70)).trans f70
        replace f71 := (b7.frozen (p := ⟨g6 + 1, 1, none⟩) (World.block_lt_of_cell? _ _ c71)).trans f71
        have h13 : g6 + 1 < w6.heap.size := Nat.lt_of_lt_of_le (World.block_lt_of_cell? _ _ c70) hb6.size
        replace c60 := bkeep b7 c60 rfl
        replace c61 := bkeep b7 c61 rfl
        replace c70 := bkeep b7 c70 rfl
        replace c71 := bkeep b7 c71 rfl
        have N13 := hN6.below hV
        have c130 : (w6.alloc (.cells #[.bool q, .slice na nn nc] 123)).cell? ⟨w6.heap.size, 0, none⟩ = some (.bool q) := by simp
        have c131 : (w6.alloc (.cells #[.bool q, .slice na nn nc] 123)).cell? ⟨w6.heap.size, 1, none⟩ = some (.slice na nn nc) := by simp
        have hB7 := hB5.trans (b7.mono hB5.size)
        clear HKeep hres hw v13 hV b7 hb6 hN6 hS hM hB5 c110 c111
        go_upto_region 7 with fail
        generalize w6.alloc (.cells #[.bool q, .slice na nn nc] 123) = U at *
        generalize w6.heap.size = g13 at *
        obtain ⟨⟨D6, D7⟩, Dn, De, D5⟩ := dswap (g7 := g6 + 1) (by omega) F6 c70 c71 f70 f71 hT rT HV.out.2.2 N13 r13 HV13.out
        have DB := bput4 hB7 (g := g6) (g' := g6 + 1) (by omega) (by omega) (.bool tp) (.slice fa7 fn7 fc7) (.bool q) (.slice na nn nc)
        have HPre : Hid (DPre ((((U.setCell ⟨g6, 0, none⟩ (.bool tp)).setCell ⟨g6, 1, none⟩ (.slice fa7 fn7 fc7)).setCell ⟨g6 + 1, 0, none⟩ (.bool q)).setCell ⟨g6 + 1, 1, none⟩ (.slice na nn nc)) ga gb g6 (g6 + 1) N A G k' ∧ Cell5 ((((U.setCell ⟨g6, 0, none⟩ (.bool tp)).setCell ⟨g6, 1, none⟩ (.slice fa7 fn7 fc7)).setCell ⟨g6 + 1, 0, none⟩ (.bool q)).setCell ⟨g6 + 1, 1, none⟩ (.slice na nn nc)) w.heap.size ∧ Below w.heap.size w ((((U.setCell ⟨g6, 0, none⟩ (.bool tp)).setCell ⟨g6, 1, none⟩ (.slice fa7 fn7 fc7)).setCell ⟨g6 + 1, 0, none⟩ (.bool q)).setCell ⟨g6 + 1, 1, none⟩ (.slice na nn nc))) :=
          ⟨⟨xa, xn, xc, xs, ya, yn, yc, ys, t, s - val 18446744073709551616 qs * t, De _ _ _ _ _ _ _ _ (by omega) (by omega) (by omega) (by omega) E, ⟨Dn _ _ _ _ hx, Dn _ _ _ _ hy⟩, ⟨rx, ry⟩, ⟨D6, D7⟩, HZ.out.1, HZ.out.2.2.2.1, HZ.out.2.2.2.2⟩, D5 _ (by omega) (by omega) hC5, DB⟩
        clear D6 D7 Dn De D5 DB E hx hy hT hC5 F6 N13 hB7
        have n1 : g13 ≠ g6 := by omega
        have n2 : g13 ≠ g6 + 1 := by omega
        have n3 : g6 ≠ g13 := by omega
        have n4 : g6 + 1 ≠ g13 := by omega
        go_region
        all_goals
          go_wp2_with fail
          refine (dstep_any ga gb g6 (g6 + 1) N A G k' _ w.heap.size (DPre.below HPre.out.1 (bdrawD (Below.refl _ _))) (by omega) (by omega) ⟨by omega, by omega⟩ ⟨by omega, by omega⟩).mono ?_
          rintro e w9 ⟨ta', tn', tc', m, rfl, hE, hOn, hkp, hb⟩
          have hC := HPre.out.2.1
          have hC9 : Cell5 w9 w.heap.size :=
            ⟨⟨(hkp _ _ _ (by omega) (by omega) hC.1.1).1, (hkp _ _ _ (by omega) (by omega) hC.1.2).1⟩, (hkp _ _ _ (by omega) (by omega) hC.1.1).2.trans hC.2.1, (hkp _ _ _ (by omega) (by omega) hC.1.2).2.trans hC.2.2⟩
          have hP3 := HPre.out.2.2
          have hB9 : Below w.heap.size w w9 := hP3.drew.trans hb
          have HEO : Hid ((m = false → DEnd w9 g6 N A G ta' tn' tc') ∧ (m = true → ∃ k2, k2 < k' ∧ DOn w9 ga gb g6 (g6 + 1) N A G k2 ta' tn' tc') ∧ Cell5 w9 w.heap.size ∧ Below w.heap.size w w9) := ⟨hE, hOn, hC9, hB9⟩
          clear hE hOn hkp hb hC hC9 hP3 hB9 HPre HZ HV HV13 c60 c61 c70 c71 c130 c131 f60 f61 f70 f71
          go_wp2_with fail
          go_roundg (k' + 1)
          case measure => omega
          case rel =>
            refine ⟨ta', tn', tc', m, rfl, rfl, HEO.out.1, fun h => ?_, HEO.out.2.2.1, HEO.out.2.2.2⟩
            obtain ⟨k2, h1, h2⟩ := HEO.out.2.1 h
            exact ⟨k2, by omega, h2⟩
end Go.Proofs.YtnbdbahfekneoaaGreat

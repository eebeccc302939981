/-
  The contract of the document's Floor of a fraction.
-/
import Derived.Test.YtfeapegdaffckaaRef8C
import Derived.Test.YtfeapegdaffckaaModR
namespace Go.Proofs.Ytfeapegdaffckaa
open Go.RowKit

/-- What is told of the greatest whole number not above a fraction: a fault, or none. -/
def flF (n : Bool) (xs ys : List Int) : Option Int := if rightF n xs ys then none else some 1

set_option maxRecDepth 20000 in
set_option maxHeartbeats 20000000 in
theorem r8floor_any (n : Bool) (a b : Option Addr) (la ca lb cb : Nat) (xs ys : List Int) (w : World) (h1 : Nums w a la ca xs) (h2 : Nums w b lb cb ys) :
    Calls Try.prog 16 #[.agg #[.bool n, .slice a la ca, .slice b lb cb]] w fun e w' => TripW (flF n xs ys) (iv n xs / (nv ys : Int)) w e w' := by
  obtain ⟨X, hX⟩ : ∃ X, X = iv n xs / (nv ys : Int) := ⟨_, rfl⟩
  rw [← hX]
  obtain ⟨f, hf⟩ : ∃ f, f = flF n xs ys := ⟨_, rfl⟩
  rw [← hf]
  have HX : Hid (X = iv n xs / (nv ys : Int) ∧ f = flF n xs ys) := ⟨hX, hf⟩
  clear hX hf
  obtain ⟨V, hVe⟩ : ∃ V, V = (w.alloc (.cells #[.bool n, .slice a la ca, .slice b lb cb] 27)).alloc (.cells #[.bool false, .slice none 0 0] 25) := ⟨_, rfl⟩
  have hv1 := balloc w (.cells #[.bool n, .slice a la ca, .slice b lb cb] 27)
  have hv2 := balloc (w.alloc (.cells #[.bool n, .slice a la ca, .slice b lb cb] 27)) (.cells #[.bool false, .slice none 0 0] 25)
  have hV := bthen hv1 hv2
  have hA := (Cell3.new w n a b la ca lb cb).below hv2
  have hR := Cell2.new (w.alloc (.cells #[.bool n, .slice a la ca, .slice b lb cb] 27)) false none 0 0
  simp only [World.size_alloc] at hR
  rw [← hVe] at hV hA hR
  have HVe : Hid (V = (w.alloc (.cells #[.bool n, .slice a la ca, .slice b lb cb] 27)).alloc (.cells #[.bool false, .slice none 0 0] 25)) := hVe
  replace h1 := h1.below hV
  replace h2 := h2.below hV
  clear hv1 hv2 hVe
  go_enter Try.func16, Try.ntmps16
  go_wp2_with fail
  rw [← HVe.out]
  obtain ⟨G, hG⟩ : ∃ G, G = w.heap.size := ⟨_, rfl⟩
  rw [← hG] at hA hR
  rw [← hG]
  have HG : Hid (G = w.heap.size) := hG
  have hGV : G < V.heap.size := hA.lt
  obtain ⟨c0, c1, c2, -, -, -⟩ := hA
  clear HVe hG
  refine (r8right_any n _ _ _ _ _ _ _ _ _ h1 h2).mono ?_
  rintro e w1 ⟨rfl, hb1⟩
  have hB1 := bthen hV hb1
  replace h1 := h1.below hb1
  replace h2 := h2.below hb1
  replace c0 := bkeep hb1 c0 rfl
  replace c1 := bkeep hb1 c1 rfl
  replace c2 := bkeep hb1 c2 rfl
  replace hGV := Nat.lt_of_lt_of_le hGV hb1.size
  replace hR := hR.below hb1
  clear hb1 hV
  cases hr1 : rightF n xs ys with
  | false =>
    have HF : Hid (ToldW f X false [] 1) := ToldW.bad (by rw [HX.out.2]; unfold flF; rw [hr1]; rfl)
    have hBB := put2_below7 hB1 (g := G + 1) (by rw [HG.out]; omega) (.bool false) (.slice none 0 0)
    obtain ⟨d0, d1, f0, f1⟩ := hR
    clear h1 h2 HX c0 c1 c2 hGV hB1 HG
    go_wp2_with fail
    exact bodyPost_ret (v := .tuple #[.agg #[.bool false, .slice none 0 0], .int .i64 1]) (by simp [results, Try.results16, go_sem, d0, d1]) rfl ⟨false, none, 0, 0, [], 1, rfl, Nums.nil _, HF.out, hBB⟩
  | true =>
    obtain ⟨hxW, hyN, hy0, -, hx16, -⟩ := rightF_parts h1.digs h2.digs hr1
    obtain ⟨x, hxe⟩ : ∃ x, x = iv n xs := ⟨_, rfl⟩
    obtain ⟨P, hPe⟩ : ∃ P : Int, P = (nv ys : Int) := ⟨_, rfl⟩
    rw [← hxe] at hxW hx16
    have HF : Hid (f = none ∧ X = x / P) := by show _ ∧ _; rw [HX.out.1, HX.out.2, hxe, hPe]; unfold flF; rw [hr1]; exact ⟨rfl, rfl⟩
    have HXB : Hid ((x.natAbs : Int) < 18446744073709551616 ^ 63 ∧ 0 < P) := ⟨by
      have h1 : (18446744073709551616 : Int) ^ 16 < 18446744073709551616 ^ 63 := by decide
      omega, by omega⟩
    have hyW : Hid (∀ (ls : List Int) (q : Bool), fromL ys = ls → fromN false ys = q → IsW q ls P) := fun ls q e1 e2 => by
      have h := IsW.from hyN false
      rw [e1, e2] at h
      simpa [hPe] using h
    clear hxe hPe hx16 hyN hy0 HX
    obtain ⟨W, hW⟩ : ∃ W, W = w1 := ⟨_, rfl⟩
    subst hW
    have HRB : Hid (Below W.heap.size W W) := Below.refl _ _
    have HFr : Hid (∀ wx : World, Below W.heap.size W wx → Calls Try.prog 36 #[.bool false, .slice b lb cb] wx fun e w' => ∃ yb ya yl yc, e = .returned (.agg #[.bool yb, .slice ya yl yc]) ∧ Hid (WAt w' yb ya yl yc P ∧ Below W.heap.size W w') ∧ (w'.cell? ⟨G, 0, none⟩ = some (.bool n) ∧ w'.cell? ⟨G, 1, none⟩ = some (.slice a la ca) ∧ w'.cell? ⟨G, 2, none⟩ = some (.slice b lb cb)) ∧ G < w'.heap.size ∧ (∀ b o, b < wx.heap.size → w'.cell? ⟨b, o, none⟩ = wx.cell? ⟨b, o, none⟩) ∧ (∀ b o, b < wx.heap.size → w'.frozen? ⟨b, o, none⟩ = wx.frozen? ⟨b, o, none⟩) ∧ (∀ b, b < wx.heap.size → b < w'.heap.size)) := by
      intro wx hbx
      refine (refFrom_any false _ _ _ _ wx (h2.below hbx)).mono ?_
      rintro e w' ⟨a', n', c', rfl, hn, hb⟩
      have hb' := bthen hbx hb
      exact ⟨_, _, _, _, rfl, ⟨⟨_, hn, hyW.out _ _ rfl rfl⟩, hb'⟩, ⟨bkeep hb' c0 rfl, bkeep hb' c1 rfl, bkeep hb' c2 rfl⟩, Nat.lt_of_lt_of_le hGV hb'.size, bfactsD hb⟩
    have HFl : Hid (∀ (wx : World) yb ya yl yc, WAt wx yb ya yl yc P → Below W.heap.size W wx → Calls Try.prog 46 #[.agg #[.bool n, .slice a la ca], .agg #[.bool yb, .slice ya yl yc]] wx fun e w' => ∃ q qa qn qc r ra rn rc, e = .returned (.tuple #[.agg #[.bool q, .slice qa qn qc], .agg #[.bool r, .slice ra rn rc], .int .i64 0]) ∧ Hid ((∃ qs, Nums w' qa qn qc qs ∧ IsW q qs (x / P)) ∧ (∃ rs, Nums w' ra rn rc rs ∧ IsW r rs (x % P)) ∧ Below W.heap.size W w') ∧ (w'.cell? ⟨G, 0, none⟩ = some (.bool n) ∧ w'.cell? ⟨G, 1, none⟩ = some (.slice a la ca) ∧ w'.cell? ⟨G, 2, none⟩ = some (.slice b lb cb)) ∧ G < w'.heap.size ∧ (∀ b o, b < wx.heap.size → w'.cell? ⟨b, o, none⟩ = wx.cell? ⟨b, o, none⟩) ∧ (∀ b o, b < wx.heap.size → w'.frozen? ⟨b, o, none⟩ = wx.frozen? ⟨b, o, none⟩) ∧ (∀ b, b < wx.heap.size → b < w'.heap.size)) := by
      rintro wx yb ya yl yc ⟨zs, hy, hyW⟩ hbx
      refine (refIFloor_any n yb _ _ _ _ _ _ _ _ wx (h1.below hbx) hy).mono ?_
      rintro e w' ⟨q, qa, qn, qc, qs, r, ra, rn, rc, rs, err, rfl, ⟨hQ, hR⟩, hF, hb⟩
      obtain ⟨rfl, f1, f2⟩ := floor_isW hxW hyW HXB.out.2 HXB.out.1 hF
      have hb' := bthen hbx hb
      exact ⟨q, qa, qn, qc, r, ra, rn, rc, rfl, ⟨⟨qs, hQ, f1⟩, ⟨rs, hR, f2⟩, hb'⟩, ⟨bkeep hb' c0 rfl, bkeep hb' c1 rfl, bkeep hb' c2 rfl⟩, Nat.lt_of_lt_of_le hGV hb'.size, bfactsD hb⟩
    clear hyW hxW HXB h1 h2
    go_wp2_with fail
    go_cut [5, 6] (fun p12 p13 wx => Two7 W (x / P) (x % P) p12 p13 wx)
    case first =>
      clear HF hB1 hR HG
      have ne0 := World.new_ne W ⟨G, 0, none⟩ c0
      go_region_held3 (fun w' => (w'.cell? ⟨G, 0, none⟩ = some (.bool n) ∧ w'.cell? ⟨G, 1, none⟩ = some (.slice a la ca) ∧ w'.cell? ⟨G, 2, none⟩ = some (.slice b lb cb))) (first | go_keep | exact o6 | exact n6 | exact ⟨(put2_other (by omega) _ _).trans o6.1, (put2_other (by omega) _ _).trans o6.2.1, (put2_other (by omega) _ _).trans o6.2.2⟩ | exact ⟨(put2_other (by omega) _ _).trans ((put2_other (by omega) _ _).trans o6.1), (put2_other (by omega) _ _).trans ((put2_other (by omega) _ _).trans o6.2.1), (put2_other (by omega) _ _).trans ((put2_other (by omega) _ _).trans o6.2.2)⟩)
        (first
        | (go_at_call 36; with_reducible refine Calls.mono (HFr.out _ ?_) ?_; (focus (repeat (first | exact HRB.out | refine bdrawD ?_ | refine bgrowD ?_ _))); rintro e w3 ⟨yb, ya, yl, yc, rfl, hY, n6, n7, hc3, hf3, hs3⟩; have ne3 := World.new_ne w3 ⟨G, 0, none⟩ n6.1; (try have k30 := hs3 (W.heap.size) (by first | omega | (simp; done) | (simp; omega))); (try have m300 := hc3 (W.heap.size) 0 (by first | omega | (simp; done) | (simp; omega))); (try have f300 := hf3 (W.heap.size) 0 (by first | omega | (simp; done) | (simp; omega))); (try have m301 := hc3 (W.heap.size) 1 (by first | omega | (simp; done) | (simp; omega))); (try have f301 := hf3 (W.heap.size) 1 (by first | omega | (simp; done) | (simp; omega))); (try have k31 := hs3 (W.heap.size + 1) (by first | omega | (simp; done) | (simp; omega))); (try have m310 := hc3 (W.heap.size + 1) 0 (by first | omega | (simp; done) | (simp; omega))); (try have f310 := hf3 (W.heap.size + 1) 0 (by first | omega | (simp; done) | (simp; omega))); (try have m311 := hc3 (W.heap.size + 1) 1 (by first | omega | (simp; done) | (simp; omega))); (try have f311 := hf3 (W.heap.size + 1) 1 (by first | omega | (simp; done) | (simp; omega))); clear hc3 hf3 hs3)
        | (go_at_call 46; with_reducible refine Calls.mono (HFl.out _ yb ya yl yc ?_ ?_) ?_; (focus (repeat (first | exact hY.out.1 | refine WAt.drew ?_ | refine WAt.grow ?_ _))); (focus (repeat (first | exact hY.out.2 | refine bdrawD ?_ | refine bgrowD ?_ _))); rintro e w4 ⟨q, qa, qn, qc, r, ra, rn, rc, rfl, hR, o6, o7, hc4, hf4, hs4⟩; have ne4 := World.new_ne w4 ⟨G, 0, none⟩ o6.1; (try have k40 := hs4 (W.heap.size) (by first | omega | (simp; done) | (simp; omega))); (try have m400 := hc4 (W.heap.size) 0 (by first | omega | (simp; done) | (simp; omega))); (try have f400 := hf4 (W.heap.size) 0 (by first | omega | (simp; done) | (simp; omega))); (try have m401 := hc4 (W.heap.size) 1 (by first | omega | (simp; done) | (simp; omega))); (try have f401 := hf4 (W.heap.size) 1 (by first | omega | (simp; done) | (simp; omega))); (try have k41 := hs4 (W.heap.size + 1) (by first | omega | (simp; done) | (simp; omega))); (try have m410 := hc4 (W.heap.size + 1) 0 (by first | omega | (simp; done) | (simp; omega))); (try have f410 := hf4 (W.heap.size + 1) 0 (by first | omega | (simp; done) | (simp; omega))); (try have m411 := hc4 (W.heap.size + 1) 1 (by first | omega | (simp; done) | (simp; omega))); (try have f411 := hf4 (W.heap.size + 1) 1 (by first | omega | (simp; done) | (simp; omega))); (try have k42 := hs4 (w3.heap.size) (by first | omega | (simp; done) | (simp; omega))); (try have m420 := hc4 (w3.heap.size) 0 (by first | omega | (simp; done) | (simp; omega))); (try have f420 := hf4 (w3.heap.size) 0 (by first | omega | (simp; done) | (simp; omega))); (try have m421 := hc4 (w3.heap.size) 1 (by first | omega | (simp; done) | (simp; omega))); (try have f421 := hf4 (w3.heap.size) 1 (by first | omega | (simp; done) | (simp; omega))); (try have k43 := hs4 (w3.heap.size + 1) (by first | omega | (simp; done) | (simp; omega))); (try have m430 := hc4 (w3.heap.size + 1) 0 (by first | omega | (simp; done) | (simp; omega))); (try have f430 := hf4 (w3.heap.size + 1) 0 (by first | omega | (simp; done) | (simp; omega))); (try have m431 := hc4 (w3.heap.size + 1) 1 (by first | omega | (simp; done) | (simp; omega))); (try have f431 := hf4 (w3.heap.size + 1) 1 (by first | omega | (simp; done) | (simp; omega))); clear hc4 hf4 hs4))
      all_goals
        have hz4 := hR.out.2.2.size
        have hz3 := hY.out.2.size
        clear HFr HFl HRB
        go_wp2_with fail
        go_meet
        case rel =>
          obtain ⟨⟨qs, hQ, hqW⟩, ⟨rs, hRr, hrW⟩, hbM⟩ := hR.out
          first
            | with_reducible exact two_a hQ hqW hRr hrW hbM
            | with_reducible exact two_b hQ hqW hRr hrW hbM
            | (with_reducible refine two_c (p := false) (sa := none) (sn := 0) (sc := 0) hQ hqW hRr hrW hbM ?_ ?_ ?_ ?_ ?_
               · go_simp
               · go_simp
               · go_simp
               · go_simp
               · first | omega | (simp; done) | (simp; omega))
            | (with_reducible refine two_d (p := false) (sa := none) (sn := 0) (sc := 0) hQ hqW hRr hrW hbM ?_ ?_ ?_ ?_ ?_
               · go_simp
               · go_simp
               · go_simp
               · go_simp
               · first | omega | (simp; done) | (simp; omega))
            | (with_reducible refine two_e (p := false) (sa := none) (sn := 0) (sc := 0) (p' := false) (sa' := none) (sn' := 0) (sc' := 0) hQ hqW hRr hrW hbM ?_ ?_ ?_ ?_ ?_ ?_ ?_ ?_ ?_ ?_ ?_
               · go_simp
               · go_simp
               · go_simp
               · go_simp
               · first | omega | (simp; done) | (simp; omega)
               · go_simp
               · go_simp
               · go_simp
               · go_simp
               · first | omega | (simp; done) | (simp; omega)
               · first | omega | (simp; done) | (simp; omega))
    case rest =>
      obtain ⟨g1, g2, rfl, rfl, F1, -, hbc⟩ := hcut
      have hBc := bthen hB1 hbc
      obtain ⟨d0, d1, f0, f1⟩ := hR.below hbc
      clear HFr HFl HRB c0 c1 c2 hB1 hR hbc hGV
      obtain ⟨zp, za, zn, zc, zs, ⟨c0, c1⟩, -, hZn, hZr, hZv⟩ := F1
      have HZ : Hid (ToldW f X zp zs 0) := ToldW.good HF.out.1 ⟨hZn.digs, hZr, hZv.trans HF.out.2.symm⟩
      have hn2 := hZn.put2 d0 d1 (.bool zp) (.slice za zn zc)
      have hBB := put2_below7 hBc (g := G + 1) (by rw [HG.out]; omega) (.bool zp) (.slice za zn zc)
      clear hZn hZr hZv hBc HG HF
      go_wp2_with fail
      exact bodyPost_ret (v := .tuple #[.agg #[.bool zp, .slice za zn zc], .int .i64 0]) (by simp [results, Try.results16, go_sem, d0, d1]) rfl ⟨zp, za, zn, zc, zs, 0, rfl, hn2, HZ.out, hBB⟩
end Go.Proofs.Ytfeapegdaffckaa

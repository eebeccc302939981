/-
  The contract of the document's Cmp of fractions.
-/
import Derived.Test.YtfeapegdaffckaaRef8C
import Derived.Deep.RegionWith
import Derived.Deep.RegionHeld3
import Derived.BigRegion
namespace Go.Proofs.Ytfeapegdaffckaa
open Go.RowKit

/-- Which one of two fractions is the greater one. -/
def cmpFF (n : Bool) (xs ys : List Int) (m : Bool) (us vs : List Int) : Int := if rightF n xs ys && rightF m us vs then cmpZ (iv n xs * (nv vs : Int)) (iv m us * (nv ys : Int)) else 0

set_option maxRecDepth 20000 in
set_option maxHeartbeats 20000000 in
theorem r8cmp_any (n m : Bool) (a b c d : Option Addr) (la ca lb cb lc cc ld cd : Nat) (xs ys us vs : List Int) (w : World) (h1 : Nums w a la ca xs) (h2 : Nums w b lb cb ys) (h3 : Nums w c lc cc us) (h4 : Nums w d ld cd vs) :
    Calls Try.prog 19 #[.agg #[.bool n, .slice a la ca, .slice b lb cb], .agg #[.bool m, .slice c lc cc, .slice d ld cd]] w fun e w' => e = .returned (.int .i64 (cmpFF n xs ys m us vs)) ∧ Below w.heap.size w w' := by
  obtain ⟨t, ht⟩ : ∃ t, t = cmpFF n xs ys m us vs := ⟨_, rfl⟩
  rw [← ht]
  have HT : Hid (t = cmpFF n xs ys m us vs) := ht
  clear ht
  obtain ⟨V, hVe⟩ : ∃ V, V = ((w.alloc (.cells #[.bool n, .slice a la ca, .slice b lb cb] 27)).alloc (.cells #[.bool m, .slice c lc cc, .slice d ld cd] 27)) := ⟨_, rfl⟩
  have hv1 := balloc w (.cells #[.bool n, .slice a la ca, .slice b lb cb] 27)
  have hv2 := balloc (w.alloc (.cells #[.bool n, .slice a la ca, .slice b lb cb] 27)) (.cells #[.bool m, .slice c lc cc, .slice d ld cd] 27)
  have hV := bthen hv1 hv2
  have hA := (Cell3.new w n a b la ca lb cb).below (hv2)
  have hB := (Cell3.new (w.alloc (.cells #[.bool n, .slice a la ca, .slice b lb cb] 27)) m c d lc cc ld cd)
  simp only [World.size_alloc] at hB
  rw [← hVe] at hV hA hB
  have HVe : Hid (V = ((w.alloc (.cells #[.bool n, .slice a la ca, .slice b lb cb] 27)).alloc (.cells #[.bool m, .slice c lc cc, .slice d ld cd] 27))) := hVe
  replace h1 := h1.below hV
  replace h2 := h2.below hV
  replace h3 := h3.below hV
  replace h4 := h4.below hV
  clear hv1 hv2 hVe
  go_enter Try.func19, Try.ntmps19
  go_wp2_with fail
  rw [← HVe.out]
  obtain ⟨G, hG⟩ : ∃ G, G = w.heap.size := ⟨_, rfl⟩
  rw [← hG] at hA hB
  rw [← hG]
  have HG : Hid (G = w.heap.size) := hG
  obtain ⟨c0, c1, c2, -, -, -⟩ := hA
  have hGV : G + 1 < V.heap.size := hB.lt
  obtain ⟨e0, e1, e2, -, -, -⟩ := hB
  clear HVe hG
  refine (r8right_any n _ _ _ _ _ _ _ _ _ h1 h2).mono ?_
  rintro e w1 ⟨rfl, hb1⟩
  have hB1 := bthen hV hb1
  replace h1 := h1.below hb1
  replace h2 := h2.below hb1
  replace h3 := h3.below hb1
  replace h4 := h4.below hb1
  replace c0 := bkeep hb1 c0 rfl
  replace c1 := bkeep hb1 c1 rfl
  replace c2 := bkeep hb1 c2 rfl
  replace e0 := bkeep hb1 e0 rfl
  replace e1 := bkeep hb1 e1 rfl
  replace e2 := bkeep hb1 e2 rfl
  replace hGV := Nat.lt_of_lt_of_le hGV hb1.size
  clear hb1 hV
  go_wp2_with fail
  refine (r8right_any m _ _ _ _ _ _ _ _ _ h3 h4).mono ?_
  rintro e w2 ⟨rfl, hb2⟩
  have hB2 := bthen hB1 hb2
  replace h1 := h1.below hb2
  replace h2 := h2.below hb2
  replace h3 := h3.below hb2
  replace h4 := h4.below hb2
  replace c0 := bkeep hb2 c0 rfl
  replace c1 := bkeep hb2 c1 rfl
  replace c2 := bkeep hb2 c2 rfl
  replace e0 := bkeep hb2 e0 rfl
  replace e1 := bkeep hb2 e1 rfl
  replace e2 := bkeep hb2 e2 rfl
  replace hGV := Nat.lt_of_lt_of_le hGV hb2.size
  clear hb2 hB1
  cases hr1 : rightF n xs ys with
  | false =>
    have HE : Hid (t = 0) := by show _ = _; rw [HT.out]; unfold cmpFF; rw [hr1]; rfl
    clear h1 h2 h3 h4 HT
    go_wp2
    go_ret
    exact ⟨ret_int HE.out.symm, hB2⟩
  | true =>
  cases hr2 : rightF m us vs with
  | false =>
    have HE : Hid (t = 0) := by show _ = _; rw [HT.out]; unfold cmpFF; rw [hr2, Bool.and_false]; rfl
    clear h1 h2 h3 h4 HT
    go_wp2
    go_ret
    exact ⟨ret_int HE.out.symm, hB2⟩
  | true =>
    obtain ⟨hxW, hyN, hy0, hg1, hx16, hy16⟩ := rightF_parts h1.digs h2.digs hr1
    obtain ⟨huW, hvN, hv0, hg2, hu16, hv16⟩ := rightF_parts h3.digs h4.digs hr2
    obtain ⟨x, hxe⟩ : ∃ x, x = iv n xs := ⟨_, rfl⟩
    obtain ⟨y, hye⟩ : ∃ y, y = nv ys := ⟨_, rfl⟩
    obtain ⟨u, hue⟩ : ∃ u, u = iv m us := ⟨_, rfl⟩
    obtain ⟨v, hve⟩ : ∃ v, v = nv vs := ⟨_, rfl⟩
    rw [← hxe] at hxW hg1 hx16
    rw [← hye] at hyN hy0 hg1 hy16
    rw [← hue] at huW hg2 hu16
    rw [← hve] at hvN hv0 hg2 hv16
    obtain ⟨P, hP⟩ : ∃ P, P = x * (v : Int) := ⟨_, rfl⟩
    obtain ⟨Q, hQ⟩ : ∃ Q, Q = u * (y : Int) := ⟨_, rfl⟩
    have p1 := prod_16 hx16 hv16
    have p2 := prod_16 hu16 hy16
    have p3 : (18446744073709551616 : Int) ^ 32 + 18446744073709551616 ^ 32 < 18446744073709551616 ^ 64 := by decide
    have HPQ : Hid (((x * (v : Int)).natAbs : Int) < 18446744073709551616 ^ 64 ∧ ((u * (y : Int)).natAbs : Int) < 18446744073709551616 ^ 64 ∧ P = x * (v : Int) ∧ Q = u * (y : Int)) := ⟨by omega, by omega, hP, hQ⟩
    have HE : Hid (t = cmpZ P Q) := by
      show _ = _
      rw [HT.out, hP, hQ]
      unfold cmpFF
      rw [hr1, hr2, hxe, hye, hue, hve]
      rfl
    obtain ⟨W, hW⟩ : ∃ W, W = w2 := ⟨_, rfl⟩
    subst hW
    clear p1 p2 p3 hP hQ hxe hye hue hve hg1 hg2 hx16 hy16 hu16 hv16 hy0 hv0 HT
    have HRB : Hid (Below W.heap.size W W) := Below.refl _ _
    have HO1 : Hid (∀ wx : World, Below W.heap.size W wx → Calls Try.prog 50 #[.agg #[.bool n, .slice a la ca, .slice b lb cb], .agg #[.bool m, .slice c lc cc, .slice d ld cd]] wx fun e w' => ∃ pb pa pl pc, e = .returned (.agg #[.bool pb, .slice pa pl pc]) ∧ Hid (WAt w' pb pa pl pc P ∧ Below W.heap.size W w') ∧ (w'.cell? ⟨G, 0, none⟩ = some (.bool n) ∧ w'.cell? ⟨G, 1, none⟩ = some (.slice a la ca) ∧ w'.cell? ⟨G, 2, none⟩ = some (.slice b lb cb) ∧ w'.cell? ⟨G + 1, 0, none⟩ = some (.bool m) ∧ w'.cell? ⟨G + 1, 1, none⟩ = some (.slice c lc cc) ∧ w'.cell? ⟨G + 1, 2, none⟩ = some (.slice d ld cd)) ∧ G + 1 < w'.heap.size ∧ (∀ b o, b < wx.heap.size → w'.cell? ⟨b, o, none⟩ = wx.cell? ⟨b, o, none⟩) ∧ (∀ b o, b < wx.heap.size → w'.frozen? ⟨b, o, none⟩ = wx.frozen? ⟨b, o, none⟩) ∧ (∀ b, b < wx.heap.size → b < w'.heap.size)) := by
      intro wx hbx
      refine (r8over_any n m _ _ _ _ _ _ _ _ _ _ _ _ xs vs x v wx (h1.below hbx) (h4.below hbx) hxW hvN (by have := HPQ.out.1; omega)).mono ?_
      rintro e w' ⟨pb, pa, pl, pc, ps, rfl, hn, hw, hb⟩
      have hb' := bthen hbx hb
      rw [← HPQ.out.2.2.1] at hw
      exact ⟨_, _, _, _, rfl, ⟨⟨_, hn, hw⟩, hb'⟩, ⟨bkeep hb' c0 rfl, bkeep hb' c1 rfl, bkeep hb' c2 rfl, bkeep hb' e0 rfl, bkeep hb' e1 rfl, bkeep hb' e2 rfl⟩, Nat.lt_of_lt_of_le hGV hb'.size, bfactsD hb⟩
    have HO2 : Hid (∀ wx : World, Below W.heap.size W wx → Calls Try.prog 50 #[.agg #[.bool m, .slice c lc cc, .slice d ld cd], .agg #[.bool n, .slice a la ca, .slice b lb cb]] wx fun e w' => ∃ qb qa ql qc, e = .returned (.agg #[.bool qb, .slice qa ql qc]) ∧ Hid (WAt w' qb qa ql qc Q ∧ Below W.heap.size W w' ∧ ∀ n a l c, WAt wx n a l c P → WAt w' n a l c P) ∧ (w'.cell? ⟨G, 0, none⟩ = some (.bool n) ∧ w'.cell? ⟨G, 1, none⟩ = some (.slice a la ca) ∧ w'.cell? ⟨G, 2, none⟩ = some (.slice b lb cb) ∧ w'.cell? ⟨G + 1, 0, none⟩ = some (.bool m) ∧ w'.cell? ⟨G + 1, 1, none⟩ = some (.slice c lc cc) ∧ w'.cell? ⟨G + 1, 2, none⟩ = some (.slice d ld cd)) ∧ G + 1 < w'.heap.size ∧ (∀ b o, b < wx.heap.size → w'.cell? ⟨b, o, none⟩ = wx.cell? ⟨b, o, none⟩) ∧ (∀ b o, b < wx.heap.size → w'.frozen? ⟨b, o, none⟩ = wx.frozen? ⟨b, o, none⟩) ∧ (∀ b, b < wx.heap.size → b < w'.heap.size)) := by
      intro wx hbx
      refine (r8over_any m n _ _ _ _ _ _ _ _ _ _ _ _ us ys u y wx (h3.below hbx) (h2.below hbx) huW hyN (by have := HPQ.out.2.1; omega)).mono ?_
      rintro e w' ⟨pb, pa, pl, pc, ps, rfl, hn, hw, hb⟩
      have hb' := bthen hbx hb
      rw [← HPQ.out.2.2.2] at hw
      exact ⟨_, _, _, _, rfl, ⟨⟨_, hn, hw⟩, hb', fun _ _ _ _ hk => hk.below hb⟩, ⟨bkeep hb' c0 rfl, bkeep hb' c1 rfl, bkeep hb' c2 rfl, bkeep hb' e0 rfl, bkeep hb' e1 rfl, bkeep hb' e2 rfl⟩, Nat.lt_of_lt_of_le hGV hb'.size, bfactsD hb⟩

    have HCm : Hid (∀ (wx : World) pb pa pl pc qb qa ql qc, WAt wx pb pa pl pc P → WAt wx qb qa ql qc Q → Below W.heap.size W wx → Calls Try.prog 49 #[.agg #[.bool pb, .slice pa pl pc], .agg #[.bool qb, .slice qa ql qc]] wx fun e w' => e = .returned (.int .i64 t) ∧ Hid (Below W.heap.size W w') ∧ (w'.cell? ⟨G, 0, none⟩ = some (.bool n) ∧ w'.cell? ⟨G, 1, none⟩ = some (.slice a la ca) ∧ w'.cell? ⟨G, 2, none⟩ = some (.slice b lb cb) ∧ w'.cell? ⟨G + 1, 0, none⟩ = some (.bool m) ∧ w'.cell? ⟨G + 1, 1, none⟩ = some (.slice c lc cc) ∧ w'.cell? ⟨G + 1, 2, none⟩ = some (.slice d ld cd))) := by
      rintro wx pb pa pl pc qb qa ql qc ⟨ps, hp, hpW⟩ ⟨qs, hq, hqW⟩ hbx
      refine (refICmp_any pb qb _ _ _ _ _ _ _ _ wx hp hq).mono ?_
      rintro e w' ⟨rfl, hb⟩
      have hb' := bthen hbx hb
      exact ⟨by rw [hpW.cmp hqW, HE.out], hb', ⟨bkeep hb' c0 rfl, bkeep hb' c1 rfl, bkeep hb' c2 rfl, bkeep hb' e0 rfl, bkeep hb' e1 rfl, bkeep hb' e2 rfl⟩⟩
    clear HE HPQ h1 h2 h3 h4 hxW hyN huW hvN
    go_wp2_with fail
    go_region_held3 (fun w' => (w'.cell? ⟨G, 0, none⟩ = some (.bool n) ∧ w'.cell? ⟨G, 1, none⟩ = some (.slice a la ca) ∧ w'.cell? ⟨G, 2, none⟩ = some (.slice b lb cb) ∧ w'.cell? ⟨G + 1, 0, none⟩ = some (.bool m) ∧ w'.cell? ⟨G + 1, 1, none⟩ = some (.slice c lc cc) ∧ w'.cell? ⟨G + 1, 2, none⟩ = some (.slice d ld cd))) (first | go_keep | exact n6 | exact o6 | exact q6)
        (first
        | (go_at_call 50; with_reducible refine Calls.mono (HO1.out _ ?_) ?_; (focus (repeat (first | exact HRB.out | refine bdrawD ?_ | refine bgrowD ?_ _))); rintro e w3 ⟨pb, pa, pl, pc, rfl, hA, n6, n7, hc3, hf3, hs3⟩; have ne3 := World.new_ne w3 ⟨G, 0, none⟩ n6.1; have ne4 := World.new_ne w3 ⟨G + 1, 0, none⟩ n6.2.2.2.1; (try have k30 := hs3 (W.heap.size) (by first | omega | (simp; done) | (simp; omega))); (try have m300 := hc3 (W.heap.size) 0 (by first | omega | (simp; done) | (simp; omega))); (try have f300 := hf3 (W.heap.size) 0 (by first | omega | (simp; done) | (simp; omega))); (try have m301 := hc3 (W.heap.size) 1 (by first | omega | (simp; done) | (simp; omega))); (try have f301 := hf3 (W.heap.size) 1 (by first | omega | (simp; done) | (simp; omega))); clear hc3 hf3 hs3)
        | (go_at_call 50; with_reducible refine Calls.mono (HO2.out _ ?_) ?_; (focus (repeat (first | exact hA.out.2 | refine bdrawD ?_ | refine bgrowD ?_ _))); rintro e w4 ⟨qb, qa, ql, qc, rfl, hB, q6, q7, hc4, hf4, hs4⟩; have ne5 := World.new_ne w4 ⟨G, 0, none⟩ q6.1; have ne6 := World.new_ne w4 ⟨G + 1, 0, none⟩ q6.2.2.2.1; have hA4 := hB.out.2.2 pb pa pl pc (by (focus (repeat (first | exact hA.out.1 | refine WAt.drew ?_ | refine WAt.grow ?_ _)))); (try have k40 := hs4 (W.heap.size) (by first | omega | (simp; done) | (simp; omega))); (try have m400 := hc4 (W.heap.size) 0 (by first | omega | (simp; done) | (simp; omega))); (try have f400 := hf4 (W.heap.size) 0 (by first | omega | (simp; done) | (simp; omega))); (try have m401 := hc4 (W.heap.size) 1 (by first | omega | (simp; done) | (simp; omega))); (try have f401 := hf4 (W.heap.size) 1 (by first | omega | (simp; done) | (simp; omega))); (try have k41 := hs4 (w3.heap.size) (by first | omega | (simp; done) | (simp; omega))); (try have m410 := hc4 (w3.heap.size) 0 (by first | omega | (simp; done) | (simp; omega))); (try have f410 := hf4 (w3.heap.size) 0 (by first | omega | (simp; done) | (simp; omega))); (try have m411 := hc4 (w3.heap.size) 1 (by first | omega | (simp; done) | (simp; omega))); (try have f411 := hf4 (w3.heap.size) 1 (by first | omega | (simp; done) | (simp; omega))); clear hc4 hf4 hs4)
        | (go_at_call 49; with_reducible refine Calls.mono (HCm.out _ pb pa pl pc qb qa ql qc ?_ ?_ ?_) ?_; (focus (repeat (first | exact hA4 | refine WAt.drew ?_ | refine WAt.grow ?_ _))); (focus (repeat (first | exact hB.out.1 | refine WAt.drew ?_ | refine WAt.grow ?_ _))); (focus (repeat (first | exact hB.out.2.1 | refine bdrawD ?_ | refine bgrowD ?_ _))); rintro e w5 ⟨rfl, hb5, o6⟩))
    all_goals
      clear HO1 HO2 HCm HRB
      go_wp2_with fail
      go_ret
      exact ⟨rfl, bthen hB2 hb5.out⟩
end Go.Proofs.Ytfeapegdaffckaa

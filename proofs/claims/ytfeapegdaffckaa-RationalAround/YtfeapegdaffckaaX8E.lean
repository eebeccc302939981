/-
  Contracts of package rational's Cmp, Add, Sub and Mul.
-/
import Derived.Test.YtfeapegdaffckaaX8C
import Derived.Test.YtfeapegdaffckaaX8D
import Derived.Test.YtfeapegdaffckaaModB
namespace Go.Proofs.Ytfeapegdaffckaa
open Go.RowKit

theorem mul_16 {x u : Int} (hx : (x.natAbs : Int) < 18446744073709551616 ^ 16) (hu : (u.natAbs : Int) < 18446744073709551616 ^ 16) : ((x * u).natAbs : Int) < 18446744073709551616 ^ 64 := by
  have h := prod_16 (x := x) (v := u.natAbs) hx hu
  have e : ((x * (u.natAbs : Int)).natAbs : Int) = ((x * u).natAbs : Int) := by rw [Int.natAbs_mul, Int.natAbs_mul, Int.natAbs_natCast]
  rw [e] at h
  have h2 : (18446744073709551616 : Int) ^ 32 < 18446744073709551616 ^ 64 := by decide
  omega

theorem six_new (W : World) (n m : Bool) (a b c d : Option Addr) (la ca lb cb lc cc ld cd : Nat) : ((W.alloc (.cells #[.bool n, .slice a la ca, .slice b lb cb, .bool m, .slice c lc cc, .slice d ld cd] 27)).cell? ⟨W.heap.size, 0, none⟩ = some (.bool n) ∧ (W.alloc (.cells #[.bool n, .slice a la ca, .slice b lb cb, .bool m, .slice c lc cc, .slice d ld cd] 27)).cell? ⟨W.heap.size, 1, none⟩ = some (.slice a la ca) ∧ (W.alloc (.cells #[.bool n, .slice a la ca, .slice b lb cb, .bool m, .slice c lc cc, .slice d ld cd] 27)).cell? ⟨W.heap.size, 2, none⟩ = some (.slice b lb cb) ∧ (W.alloc (.cells #[.bool n, .slice a la ca, .slice b lb cb, .bool m, .slice c lc cc, .slice d ld cd] 27)).cell? ⟨W.heap.size, 3, none⟩ = some (.bool m) ∧ (W.alloc (.cells #[.bool n, .slice a la ca, .slice b lb cb, .bool m, .slice c lc cc, .slice d ld cd] 27)).cell? ⟨W.heap.size, 4, none⟩ = some (.slice c lc cc) ∧ (W.alloc (.cells #[.bool n, .slice a la ca, .slice b lb cb, .bool m, .slice c lc cc, .slice d ld cd] 27)).cell? ⟨W.heap.size, 5, none⟩ = some (.slice d ld cd)) := ⟨by simp, by simp, by simp, by simp, by simp, by simp⟩

set_option maxRecDepth 20000 in
set_option maxHeartbeats 20000000 in
theorem cmp_ok8 : CmpOk8 := by
  intro n m a b c d la ca lb cb lc cc ld cd xs ys us vs w h1 h2 h3 h4
  obtain ⟨t, ht⟩ : ∃ t, t = cmpFF n xs ys m us vs := ⟨_, rfl⟩
  rw [← ht]
  have HT : Hid (t = cmpFF n xs ys m us vs) := ht
  clear ht
  obtain ⟨V, hVe⟩ : ∃ V, V = (((w.alloc (.cells #[.bool n, .slice a la ca, .slice b lb cb] 27)).alloc (.cells #[.bool m, .slice c lc cc, .slice d ld cd] 27)).alloc (.cells #[.bool n, .slice a la ca, .slice b lb cb, .bool m, .slice c lc cc, .slice d ld cd] 27)) := ⟨_, rfl⟩
  have hv1 := balloc w (.cells #[.bool n, .slice a la ca, .slice b lb cb] 27)
  have hv2 := balloc (w.alloc (.cells #[.bool n, .slice a la ca, .slice b lb cb] 27)) (.cells #[.bool m, .slice c lc cc, .slice d ld cd] 27)
  have hv3 := balloc ((w.alloc (.cells #[.bool n, .slice a la ca, .slice b lb cb] 27)).alloc (.cells #[.bool m, .slice c lc cc, .slice d ld cd] 27)) (.cells #[.bool n, .slice a la ca, .slice b lb cb, .bool m, .slice c lc cc, .slice d ld cd] 27)
  have hV := bthen (bthen (hv1) hv2) hv3
  have hA := (Cell3.new w n a b la ca lb cb).below (bthen (hv2) hv3)
  have hB := (Cell3.new (w.alloc (.cells #[.bool n, .slice a la ca, .slice b lb cb] 27)) m c d lc cc ld cd).below (hv3)
  have hS : ((((w.alloc (.cells #[.bool n, .slice a la ca, .slice b lb cb] 27)).alloc (.cells #[.bool m, .slice c lc cc, .slice d ld cd] 27)).alloc (.cells #[.bool n, .slice a la ca, .slice b lb cb, .bool m, .slice c lc cc, .slice d ld cd] 27)).cell? ⟨((w.alloc (.cells #[.bool n, .slice a la ca, .slice b lb cb] 27)).alloc (.cells #[.bool m, .slice c lc cc, .slice d ld cd] 27)).heap.size, 0, none⟩ = some (.bool n) ∧ (((w.alloc (.cells #[.bool n, .slice a la ca, .slice b lb cb] 27)).alloc (.cells #[.bool m, .slice c lc cc, .slice d ld cd] 27)).alloc (.cells #[.bool n, .slice a la ca, .slice b lb cb, .bool m, .slice c lc cc, .slice d ld cd] 27)).cell? ⟨((w.alloc (.cells #[.bool n, .slice a la ca, .slice b lb cb] 27)).alloc (.cells #[.bool m, .slice c lc cc, .slice d ld cd] 27)).heap.size, 1, none⟩ = some (.slice a la ca) ∧ (((w.alloc (.cells #[.bool n, .slice a la ca, .slice b lb cb] 27)).alloc (.cells #[.bool m, .slice c lc cc, .slice d ld cd] 27)).alloc (.cells #[.bool n, .slice a la ca, .slice b lb cb, .bool m, .slice c lc cc, .slice d ld cd] 27)).cell? ⟨((w.alloc (.cells #[.bool n, .slice a la ca, .slice b lb cb] 27)).alloc (.cells #[.bool m, .slice c lc cc, .slice d ld cd] 27)).heap.size, 2, none⟩ = some (.slice b lb cb) ∧ (((w.alloc (.cells #[.bool n, .slice a la ca, .slice b lb cb] 27)).alloc (.cells #[.bool m, .slice c lc cc, .slice d ld cd] 27)).alloc (.cells #[.bool n, .slice a la ca, .slice b lb cb, .bool m, .slice c lc cc, .slice d ld cd] 27)).cell? ⟨((w.alloc (.cells #[.bool n, .slice a la ca, .slice b lb cb] 27)).alloc (.cells #[.bool m, .slice c lc cc, .slice d ld cd] 27)).heap.size, 3, none⟩ = some (.bool m) ∧ (((w.alloc (.cells #[.bool n, .slice a la ca, .slice b lb cb] 27)).alloc (.cells #[.bool m, .slice c lc cc, .slice d ld cd] 27)).alloc (.cells #[.bool n, .slice a la ca, .slice b lb cb, .bool m, .slice c lc cc, .slice d ld cd] 27)).cell? ⟨((w.alloc (.cells #[.bool n, .slice a la ca, .slice b lb cb] 27)).alloc (.cells #[.bool m, .slice c lc cc, .slice d ld cd] 27)).heap.size, 4, none⟩ = some (.slice c lc cc) ∧ (((w.alloc (.cells #[.bool n, .slice a la ca, .slice b lb cb] 27)).alloc (.cells #[.bool m, .slice c lc cc, .slice d ld cd] 27)).alloc (.cells #[.bool n, .slice a la ca, .slice b lb cb, .bool m, .slice c lc cc, .slice d ld cd] 27)).cell? ⟨((w.alloc (.cells #[.bool n, .slice a la ca, .slice b lb cb] 27)).alloc (.cells #[.bool m, .slice c lc cc, .slice d ld cd] 27)).heap.size, 5, none⟩ = some (.slice d ld cd)) := six_new _ n m a b c d la ca lb cb lc cc ld cd
  simp only [World.size_alloc] at hB hS
  rw [← hVe] at hV hA hB hS
  have HVe : Hid (V = (((w.alloc (.cells #[.bool n, .slice a la ca, .slice b lb cb] 27)).alloc (.cells #[.bool m, .slice c lc cc, .slice d ld cd] 27)).alloc (.cells #[.bool n, .slice a la ca, .slice b lb cb, .bool m, .slice c lc cc, .slice d ld cd] 27))) := hVe
  replace h1 := h1.below hV
  replace h2 := h2.below hV
  replace h3 := h3.below hV
  replace h4 := h4.below hV
  clear hv1 hv2 hv3 hVe
  go_enter Try.func18, Try.ntmps18
  go_wp2_with fail
  rw [← HVe.out]
  obtain ⟨G, hG⟩ : ∃ G, G = w.heap.size := ⟨_, rfl⟩
  rw [← hG] at hA hB hS
  rw [← hG]
  have HG : Hid (G = w.heap.size) := hG
  obtain ⟨c0, c1, c2, -, -, -⟩ := hA
  obtain ⟨e0, e1, e2, -, -, -⟩ := hB
  obtain ⟨s0, s1, s2, s3, s4, s5⟩ := hS
  clear HVe hG
  refine (mayF2_any n m a b c d la ca lb cb lc cc ld cd (G + 1 + 1) xs ys us vs V (fun wx hbx => rgt_ok8 n _ _ _ _ _ _ _ _ wx (h1.below hbx) (h2.below hbx)) (fun wx hbx => rgt_ok8 m _ _ _ _ _ _ _ _ wx (h3.below hbx) (h4.below hbx)) s0 s1 s2 s3 s4 s5).mono ?_
  rintro e w1 ⟨rfl, hb1⟩
  have hB1 := bthen hV hb1
  replace h1 := h1.below hb1
  replace h2 := h2.below hb1
  replace h3 := h3.below hb1
  replace h4 := h4.below hb1
  replace c0 := bkeep hb1 c0 rfl
  replace c1 := bkeep hb1 c1 rfl
  replace c2 := bkeep hb1 c2 rfl
  replace e0 := bkeep hb1 e0 rfl
  replace e1 := bkeep hb1 e1 rfl
  replace e2 := bkeep hb1 e2 rfl
  clear hb1 hV s0 s1 s2 s3 s4 s5
  cases hq : (rightF n xs ys && rightF m us vs) with
  | false =>
    have HE : Hid (t = 0) := by show _ = _; rw [HT.out]; unfold cmpFF; rw [hq]; rfl
    clear h1 h2 h3 h4 HT
    go_wp2
    go_ret
    exact ⟨ret_int HE.out.symm, hB1⟩
  | true =>
    have hq2 := hq
    rw [Bool.and_eq_true] at hq2
    obtain ⟨hr1, hr2⟩ := hq2
    obtain ⟨hxW, hyN, hy0, hg1, hx16, hy16⟩ := rightF_parts h1.digs h2.digs hr1
    obtain ⟨huW, hvN, hv0, hg2, hu16, hv16⟩ := rightF_parts h3.digs h4.digs hr2
    obtain ⟨x, hxe⟩ : ∃ x, x = iv n xs := ⟨_, rfl⟩
    obtain ⟨y, hye⟩ : ∃ y, y = nv ys := ⟨_, rfl⟩
    obtain ⟨u, hue⟩ : ∃ u, u = iv m us := ⟨_, rfl⟩
    obtain ⟨v, hve⟩ : ∃ v, v = nv vs := ⟨_, rfl⟩
    rw [← hxe] at hxW hg1 hx16
    rw [← hye] at hyN hy0 hg1 hy16
    rw [← hue] at huW hg2 hu16
    rw [← hve] at hvN hv0 hg2 hv16
    have HE : Hid (t = cmpZ (x * (v : Int)) (u * (y : Int))) := by
      show _ = _
      rw [HT.out]
      unfold cmpFF
      rw [hq, hxe, hye, hue, hve]
      rfl
    have p1 := prod_16 hx16 hv16
    have p2 := prod_16 hu16 hy16
    have p3 : (18446744073709551616 : Int) ^ 32 + 18446744073709551616 ^ 32 < 18446744073709551616 ^ 64 := by decide
    have b1 : ((x * (v : Int)).natAbs : Int) < 18446744073709551616 ^ 64 := by omega
    have b2 : ((u * (y : Int)).natAbs : Int) < 18446744073709551616 ^ 64 := by omega
    have b3 := den_16 hy16 hv16
    have HAl := (show Hid _ from (alike_any n m _ _ _ _ _ _ _ _ _ _ _ _ xs ys us vs _ h1 h2 h3 h4 x u y v hxW hyN huW hvN b1 b2 b3))
    clear p1 p2 p3 b1 b2 b3 hxe hye hue hve hg1 hg2 hx16 hy16 hu16 hv16 hy0 hv0 HT hxW hyN huW hvN h1 h2 h3 h4 hr1 hr2 hq
    go_wp2_with fail
    refine Calls.mono HAl.out ?_
    rintro e w5 ⟨pb, pa, pl, pc, ps, qb, qa, ql, qc, qs, da, dl, dc, ds, rfl, ⟨hPn, hPW⟩, ⟨hQn, hQW⟩, -, hb5⟩
    have a1 := balloc w5 (.cells #[.bool pb, .slice pa pl pc] 25)
    have a2 := balloc (w5.alloc (.cells #[.bool pb, .slice pa pl pc] 25)) (.cells #[.bool qb, .slice qa ql qc] 25)
    have a12 := bthen a1 a2
    have hB5 := bthen (bthen hB1 hb5) a12
    have HC := (show Hid _ from icmp_any pb qb _ _ _ _ _ _ _ _ _ (hPn.below a12) (hQn.below a12))
    rw [hPW.cmp hQW, ← HE.out] at HC
    clear a1 a2 a12 HAl HE hPn hPW hQn hQW hb5 hB1 c0 c1 c2 e0 e1 e2
    go_wp2_with fail
    refine Calls.mono HC.out ?_
    rintro e w6 ⟨rfl, hb6⟩
    have hB6 := bthen hB5 hb6
    clear HC hB5 hb6
    go_wp2
    go_ret
    exact ⟨rfl, hB6⟩

set_option maxRecDepth 20000 in
set_option maxHeartbeats 20000000 in
theorem add_ok8 : AddOk8 := by
  intro n m a b c d la ca lb cb lc cc ld cd xs ys us vs w h1 h2 h3 h4
  obtain ⟨T, hT⟩ : ∃ T, T = addT n xs ys m us vs := ⟨_, rfl⟩
  rw [← hT]
  obtain ⟨D, hD⟩ : ∃ D, D = nv ys * nv vs := ⟨_, rfl⟩
  rw [← hD]
  obtain ⟨f, hf⟩ : ∃ f, f = arF n xs ys m us vs T D := ⟨_, rfl⟩
  obtain ⟨X, hX⟩ : ∃ X, X = numF T D := ⟨_, rfl⟩
  obtain ⟨Y, hY⟩ : ∃ Y, Y = denF T D := ⟨_, rfl⟩
  rw [← hf, ← hX, ← hY]
  have HX : Hid (f = arF n xs ys m us vs T D ∧ (X = numF T D ∧ Y = denF T D) ∧ T = addT n xs ys m us vs ∧ D = nv ys * nv vs) := ⟨hf, ⟨hX, hY⟩, hT, hD⟩
  clear hf hX hY hT hD
  obtain ⟨V, hVe⟩ : ∃ V, V = ((((w.alloc (.cells #[.bool n, .slice a la ca, .slice b lb cb] 27)).alloc (.cells #[.bool m, .slice c lc cc, .slice d ld cd] 27)).alloc (.cells #[.bool false, .slice none 0 0, .slice none 0 0] 27)).alloc (.cells #[.bool n, .slice a la ca, .slice b lb cb, .bool m, .slice c lc cc, .slice d ld cd] 27)) := ⟨_, rfl⟩
  have hv1 := balloc w (.cells #[.bool n, .slice a la ca, .slice b lb cb] 27)
  have hv2 := balloc (w.alloc (.cells #[.bool n, .slice a la ca, .slice b lb cb] 27)) (.cells #[.bool m, .slice c lc cc, .slice d ld cd] 27)
  have hv3 := balloc ((w.alloc (.cells #[.bool n, .slice a la ca, .slice b lb cb] 27)).alloc (.cells #[.bool m, .slice c lc cc, .slice d ld cd] 27)) (.cells #[.bool false, .slice none 0 0, .slice none 0 0] 27)
  have hv4 := balloc (((w.alloc (.cells #[.bool n, .slice a la ca, .slice b lb cb] 27)).alloc (.cells #[.bool m, .slice c lc cc, .slice d ld cd] 27)).alloc (.cells #[.bool false, .slice none 0 0, .slice none 0 0] 27)) (.cells #[.bool n, .slice a la ca, .slice b lb cb, .bool m, .slice c lc cc, .slice d ld cd] 27)
  have hV := bthen (bthen (bthen (hv1) hv2) hv3) hv4
  have hA := (Cell3.new w n a b la ca lb cb).below (bthen (bthen (hv2) hv3) hv4)
  have hB := (Cell3.new (w.alloc (.cells #[.bool n, .slice a la ca, .slice b lb cb] 27)) m c d lc cc ld cd).below (bthen (hv3) hv4)
  have hR := (Cell3.new ((w.alloc (.cells #[.bool n, .slice a la ca, .slice b lb cb] 27)).alloc (.cells #[.bool m, .slice c lc cc, .slice d ld cd] 27)) false none none 0 0 0 0).below (hv4)
  have hS : (((((w.alloc (.cells #[.bool n, .slice a la ca, .slice b lb cb] 27)).alloc (.cells #[.bool m, .slice c lc cc, .slice d ld cd] 27)).alloc (.cells #[.bool false, .slice none 0 0, .slice none 0 0] 27)).alloc (.cells #[.bool n, .slice a la ca, .slice b lb cb, .bool m, .slice c lc cc, .slice d ld cd] 27)).cell? ⟨(((w.alloc (.cells #[.bool n, .slice a la ca, .slice b lb cb] 27)).alloc (.cells #[.bool m, .slice c lc cc, .slice d ld cd] 27)).alloc (.cells #[.bool false, .slice none 0 0, .slice none 0 0] 27)).heap.size, 0, none⟩ = some (.bool n) ∧ ((((w.alloc (.cells #[.bool n, .slice a la ca, .slice b lb cb] 27)).alloc (.cells #[.bool m, .slice c lc cc, .slice d ld cd] 27)).alloc (.cells #[.bool false, .slice none 0 0, .slice none 0 0] 27)).alloc (.cells #[.bool n, .slice a la ca, .slice b lb cb, .bool m, .slice c lc cc, .slice d ld cd] 27)).cell? ⟨(((w.alloc (.cells #[.bool n, .slice a la ca, .slice b lb cb] 27)).alloc (.cells #[.bool m, .slice c lc cc, .slice d ld cd] 27)).alloc (.cells #[.bool false, .slice none 0 0, .slice none 0 0] 27)).heap.size, 1, none⟩ = some (.slice a la ca) ∧ ((((w.alloc (.cells #[.bool n, .slice a la ca, .slice b lb cb] 27)).alloc (.cells #[.bool m, .slice c lc cc, .slice d ld cd] 27)).alloc (.cells #[.bool false, .slice none 0 0, .slice none 0 0] 27)).alloc (.cells #[.bool n, .slice a la ca, .slice b lb cb, .bool m, .slice c lc cc, .slice d ld cd] 27)).cell? ⟨(((w.alloc (.cells #[.bool n, .slice a la ca, .slice b lb cb] 27)).alloc (.cells #[.bool m, .slice c lc cc, .slice d ld cd] 27)).alloc (.cells #[.bool false, .slice none 0 0, .slice none 0 0] 27)).heap.size, 2, none⟩ = some (.slice b lb cb) ∧ ((((w.alloc (.cells #[.bool n, .slice a la ca, .slice b lb cb] 27)).alloc (.cells #[.bool m, .slice c lc cc, .slice d ld cd] 27)).alloc (.cells #[.bool false, .slice none 0 0, .slice none 0 0] 27)).alloc (.cells #[.bool n, .slice a la ca, .slice b lb cb, .bool m, .slice c lc cc, .slice d ld cd] 27)).cell? ⟨(((w.alloc (.cells #[.bool n, .slice a la ca, .slice b lb cb] 27)).alloc (.cells #[.bool m, .slice c lc cc, .slice d ld cd] 27)).alloc (.cells #[.bool false, .slice none 0 0, .slice none 0 0] 27)).heap.size, 3, none⟩ = some (.bool m) ∧ ((((w.alloc (.cells #[.bool n, .slice a la ca, .slice b lb cb] 27)).alloc (.cells #[.bool m, .slice c lc cc, .slice d ld cd] 27)).alloc (.cells #[.bool false, .slice none 0 0, .slice none 0 0] 27)).alloc (.cells #[.bool n, .slice a la ca, .slice b lb cb, .bool m, .slice c lc cc, .slice d ld cd] 27)).cell? ⟨(((w.alloc (.cells #[.bool n, .slice a la ca, .slice b lb cb] 27)).alloc (.cells #[.bool m, .slice c lc cc, .slice d ld cd] 27)).alloc (.cells #[.bool false, .slice none 0 0, .slice none 0 0] 27)).heap.size, 4, none⟩ = some (.slice c lc cc) ∧ ((((w.alloc (.cells #[.bool n, .slice a la ca, .slice b lb cb] 27)).alloc (.cells #[.bool m, .slice c lc cc, .slice d ld cd] 27)).alloc (.cells #[.bool false, .slice none 0 0, .slice none 0 0] 27)).alloc (.cells #[.bool n, .slice a la ca, .slice b lb cb, .bool m, .slice c lc cc, .slice d ld cd] 27)).cell? ⟨(((w.alloc (.cells #[.bool n, .slice a la ca, .slice b lb cb] 27)).alloc (.cells #[.bool m, .slice c lc cc, .slice d ld cd] 27)).alloc (.cells #[.bool false, .slice none 0 0, .slice none 0 0] 27)).heap.size, 5, none⟩ = some (.slice d ld cd)) := six_new _ n m a b c d la ca lb cb lc cc ld cd
  simp only [World.size_alloc] at hB hS hR
  rw [← hVe] at hV hA hB hS hR
  have HVe : Hid (V = ((((w.alloc (.cells #[.bool n, .slice a la ca, .slice b lb cb] 27)).alloc (.cells #[.bool m, .slice c lc cc, .slice d ld cd] 27)).alloc (.cells #[.bool false, .slice none 0 0, .slice none 0 0] 27)).alloc (.cells #[.bool n, .slice a la ca, .slice b lb cb, .bool m, .slice c lc cc, .slice d ld cd] 27))) := hVe
  replace h1 := h1.below hV
  replace h2 := h2.below hV
  replace h3 := h3.below hV
  replace h4 := h4.below hV
  clear hv1 hv2 hv3 hv4 hVe
  go_enter Try.func20, Try.ntmps20
  go_wp2_with fail
  rw [← HVe.out]
  obtain ⟨G, hG⟩ : ∃ G, G = w.heap.size := ⟨_, rfl⟩
  rw [← hG] at hA hB hS hR
  rw [← hG]
  have HG : Hid (G = w.heap.size) := hG
  obtain ⟨c0, c1, c2, -, -, -⟩ := hA
  obtain ⟨e0, e1, e2, -, -, -⟩ := hB
  obtain ⟨s0, s1, s2, s3, s4, s5⟩ := hS
  clear HVe hG
  refine (mayF2_any n m a b c d la ca lb cb lc cc ld cd (G + 1 + 1 + 1) xs ys us vs V (fun wx hbx => rgt_ok8 n _ _ _ _ _ _ _ _ wx (h1.below hbx) (h2.below hbx)) (fun wx hbx => rgt_ok8 m _ _ _ _ _ _ _ _ wx (h3.below hbx) (h4.below hbx)) s0 s1 s2 s3 s4 s5).mono ?_
  rintro e w1 ⟨rfl, hb1⟩
  have hB1 := bthen hV hb1
  replace h1 := h1.below hb1
  replace h2 := h2.below hb1
  replace h3 := h3.below hb1
  replace h4 := h4.below hb1
  replace c0 := bkeep hb1 c0 rfl
  replace c1 := bkeep hb1 c1 rfl
  replace c2 := bkeep hb1 c2 rfl
  replace e0 := bkeep hb1 e0 rfl
  replace e1 := bkeep hb1 e1 rfl
  replace e2 := bkeep hb1 e2 rfl
  replace hR := hR.below hb1
  clear hb1 hV s0 s1 s2 s3 s4 s5
  have hgr : w.heap.size ≤ G + 1 + 1 := by rw [HG.out]; omega
  clear HG
  cases hq : (rightF n xs ys && rightF m us vs) with
  | false =>
    have HF : Hid (ToldF f X Y false [] [] 1) := ToldF.bad (by rw [HX.out.1]; unfold arF; rw [hq]; rfl)
    have hBB := put3_below hB1 hgr (.bool false) (.slice none 0 0) (.slice none 0 0)
    obtain ⟨r0, r1, r2, f0, f1, f2⟩ := hR
    clear h1 h2 h3 h4 HX c0 c1 c2 e0 e1 e2 hB1
    go_wp2_with fail
    exact bodyPost_ret (v := .tuple #[.agg #[.bool false, .slice none 0 0, .slice none 0 0], .int .i64 1]) (by simp [results, Try.results20, go_sem, r0, r1, r2]) rfl ⟨false, none, 0, 0, none, 0, 0, [], [], 1, rfl, ⟨Nums.nil _, Nums.nil _⟩, HF.out, hBB⟩
  | true =>
    have hq2 := hq
    rw [Bool.and_eq_true] at hq2
    obtain ⟨hr1, hr2⟩ := hq2
    obtain ⟨hxW, hyN, hy0, hg1, hx16, hy16⟩ := rightF_parts h1.digs h2.digs hr1
    obtain ⟨huW, hvN, hv0, hg2, hu16, hv16⟩ := rightF_parts h3.digs h4.digs hr2
    obtain ⟨x, hxe⟩ : ∃ x, x = iv n xs := ⟨_, rfl⟩
    obtain ⟨y, hye⟩ : ∃ y, y = nv ys := ⟨_, rfl⟩
    obtain ⟨u, hue⟩ : ∃ u, u = iv m us := ⟨_, rfl⟩
    obtain ⟨v, hve⟩ : ∃ v, v = nv vs := ⟨_, rfl⟩
    rw [← hxe] at hxW hg1 hx16
    rw [← hye] at hyN hy0 hg1 hy16
    rw [← hue] at huW hg2 hu16
    rw [← hve] at hvN hv0 hg2 hv16
    have p1 := prod_16 hx16 hv16
    have p2 := prod_16 hu16 hy16
    have p3 : (18446744073709551616 : Int) ^ 32 + 18446744073709551616 ^ 32 < 18446744073709551616 ^ 64 := by decide
    have b1 : ((x * (v : Int)).natAbs : Int) < 18446744073709551616 ^ 64 := by omega
    have b2 : ((u * (y : Int)).natAbs : Int) < 18446744073709551616 ^ 64 := by omega
    have b3 := den_16 hy16 hv16
    have HT : Hid (T = x * (v : Int) + u * (y : Int) ∧ ((x * (v : Int) + u * (y : Int)).natAbs : Int) < 18446744073709551616 ^ 64) := ⟨by rw [HX.out.2.2.1, hxe, hye, hue, hve]; rfl, by omega⟩
    have hD : D = y * v := by rw [HX.out.2.2.2, hye, hve]
    have hD0 : 0 < D := by rw [hD]; exact Nat.mul_pos hy0 hv0
    replace HX : Hid (f = makF T D ∧ X = numF T D ∧ Y = denF T D) := ⟨by rw [HX.out.1]; unfold arF; rw [hq]; rfl, HX.out.2.1.1, HX.out.2.1.2⟩
    have HAl := (show Hid _ from (alike_any n m _ _ _ _ _ _ _ _ _ _ _ _ xs ys us vs _ h1 h2 h3 h4 x u y v hxW hyN huW hvN b1 b2 b3))
    rw [← hD] at HAl
    clear p1 p2 p3 b1 b2 b3 hxe hye hue hve hg1 hg2 hx16 hy16 hu16 hv16 hy0 hv0 hxW hyN huW hvN h1 h2 h3 h4 hr1 hr2 hq hD
    go_wp2_with fail
    refine Calls.mono HAl.out ?_
    rintro e w5 ⟨pb, pa, pl, pc, ps, qb, qa, ql, qc, qs, da, dl, dc, ds, rfl, ⟨hPn, hPW⟩, ⟨hQn, hQW⟩, ⟨hDn, hDN⟩, hb5⟩
    have a1 := balloc w5 (.cells #[.bool pb, .slice pa pl pc] 25)
    have a2 := balloc (w5.alloc (.cells #[.bool pb, .slice pa pl pc] 25)) (.cells #[.bool qb, .slice qa ql qc] 25)
    have a12 := bthen a1 a2
    have hB5 := bthen (bthen hB1 hb5) a12
    replace hR := (hR.below hb5).below a12
    have HAd := (show Hid _ from iadd_any pb qb _ _ _ _ _ _ _ _ _ (hPn.below a12) (hQn.below a12))
    replace hDn := hDn.below a12
    clear a1 a2 a12 HAl hPn hQn hb5 hB1 c0 c1 c2 e0 e1 e2
    go_wp2_with fail
    refine Calls.mono HAd.out ?_
    rintro e w6 ⟨tb, ta, tl, tc, ts, err6, rfl, hTn, hRes, hb6⟩
    have hRe := hRes.got hPW.2.1 hQW.2.1
    rw [hPW.2.2, hQW.2.2] at hRe
    obtain ⟨hTW, rfl⟩ := IsW.res hRe HT.out.2
    rw [← HT.out.1] at hTW
    have a3 := balloc w6 (.cells #[.bool tb, .slice ta tl tc] 25)
    have hB6 := bthen (bthen hB5 hb6) a3
    replace hR := (hR.below hb6).below a3
    have HLo := (show Hid _ from lowest_any tb _ _ _ _ _ _ ts ds T D _ (hTn.below a3) ((hDn.below hb6).below a3) hTW hDN hD0)
    clear HAd hPW hQW hDn hDN hB5 hb6 hRes hRe hTn hTW hD0 HT
    rw [← HX.out.1, ← HX.out.2.1, ← HX.out.2.2] at HLo
    clear a3 HX
    go_wp2_with fail
    refine Calls.mono HLo.out ?_
    rintro e w7 ⟨zb, za, zl, zc, za', zl', zc', zs, zs', err, rfl, ⟨hZ1, hZ2⟩, hTold, hb7⟩
    replace hR := hR.below hb7
    have hBB := put3_below (bthen hB6 hb7) hgr (.bool zb) (.slice za zl zc) (.slice za' zl' zc')
    have k1 := Nums.put3 hR hZ1 (.bool zb) (.slice za zl zc) (.slice za' zl' zc')
    have k2 := Nums.put3 hR hZ2 (.bool zb) (.slice za zl zc) (.slice za' zl' zc')
    have HT : Hid (ToldF f X Y zb zs zs' err) := hTold
    obtain ⟨r0, r1, r2, f0, f1, f2⟩ := hR
    clear HLo hZ1 hZ2 hTold hb7 hB6 hgr
    go_wp2_with fail
    exact bodyPost_ret (v := .tuple #[.agg #[.bool zb, .slice za zl zc, .slice za' zl' zc'], .int .i64 err]) (by simp [results, Try.results20, go_sem, r0, r1, r2]) rfl ⟨zb, za, zl, zc, za', zl', zc', zs, zs', err, rfl, ⟨k1, k2⟩, HT.out, hBB⟩

set_option maxRecDepth 20000 in
set_option maxHeartbeats 20000000 in
theorem sub_ok8 : SubOk8 := by
  intro n m a b c d la ca lb cb lc cc ld cd xs ys us vs w h1 h2 h3 h4
  obtain ⟨T, hT⟩ : ∃ T, T = subT n xs ys m us vs := ⟨_, rfl⟩
  rw [← hT]
  obtain ⟨D, hD⟩ : ∃ D, D = nv ys * nv vs := ⟨_, rfl⟩
  rw [← hD]
  obtain ⟨f, hf⟩ : ∃ f, f = arF n xs ys m us vs T D := ⟨_, rfl⟩
  obtain ⟨X, hX⟩ : ∃ X, X = numF T D := ⟨_, rfl⟩
  obtain ⟨Y, hY⟩ : ∃ Y, Y = denF T D := ⟨_, rfl⟩
  rw [← hf, ← hX, ← hY]
  have HX : Hid (f = arF n xs ys m us vs T D ∧ (X = numF T D ∧ Y = denF T D) ∧ T = subT n xs ys m us vs ∧ D = nv ys * nv vs) := ⟨hf, ⟨hX, hY⟩, hT, hD⟩
  clear hf hX hY hT hD
  obtain ⟨V, hVe⟩ : ∃ V, V = ((((w.alloc (.cells #[.bool n, .slice a la ca, .slice b lb cb] 27)).alloc (.cells #[.bool m, .slice c lc cc, .slice d ld cd] 27)).alloc (.cells #[.bool false, .slice none 0 0, .slice none 0 0] 27)).alloc (.cells #[.bool n, .slice a la ca, .slice b lb cb, .bool m, .slice c lc cc, .slice d ld cd] 27)) := ⟨_, rfl⟩
  have hv1 := balloc w (.cells #[.bool n, .slice a la ca, .slice b lb cb] 27)
  have hv2 := balloc (w.alloc (.cells #[.bool n, .slice a la ca, .slice b lb cb] 27)) (.cells #[.bool m, .slice c lc cc, .slice d ld cd] 27)
  have hv3 := balloc ((w.alloc (.cells #[.bool n, .slice a la ca, .slice b lb cb] 27)).alloc (.cells #[.bool m, .slice c lc cc, .slice d ld cd] 27)) (.cells #[.bool false, .slice none 0 0, .slice none 0 0] 27)
  have hv4 := balloc (((w.alloc (.cells #[.bool n, .slice a la ca, .slice b lb cb] 27)).alloc (.cells #[.bool m, .slice c lc cc, .slice d ld cd] 27)).alloc (.cells #[.bool false, .slice none 0 0, .slice none 0 0] 27)) (.cells #[.bool n, .slice a la ca, .slice b lb cb, .bool m, .slice c lc cc, .slice d ld cd] 27)
  have hV := bthen (bthen (bthen (hv1) hv2) hv3) hv4
  have hA := (Cell3.new w n a b la ca lb cb).below (bthen (bthen (hv2) hv3) hv4)
  have hB := (Cell3.new (w.alloc (.cells #[.bool n, .slice a la ca, .slice b lb cb] 27)) m c d lc cc ld cd).below (bthen (hv3) hv4)
  have hR := (Cell3.new ((w.alloc (.cells #[.bool n, .slice a la ca, .slice b lb cb] 27)).alloc (.cells #[.bool m, .slice c lc cc, .slice d ld cd] 27)) false none none 0 0 0 0).below (hv4)
  have hS : (((((w.alloc (.cells #[.bool n, .slice a la ca, .slice b lb cb] 27)).alloc (.cells #[.bool m, .slice c lc cc, .slice d ld cd] 27)).alloc (.cells #[.bool false, .slice none 0 0, .slice none 0 0] 27)).alloc (.cells #[.bool n, .slice a la ca, .slice b lb cb, .bool m, .slice c lc cc, .slice d ld cd] 27)).cell? ⟨(((w.alloc (.cells #[.bool n, .slice a la ca, .slice b lb cb] 27)).alloc (.cells #[.bool m, .slice c lc cc, .slice d ld cd] 27)).alloc (.cells #[.bool false, .slice none 0 0, .slice none 0 0] 27)).heap.size, 0, none⟩ = some (.bool n) ∧ ((((w.alloc (.cells #[.bool n, .slice a la ca, .slice b lb cb] 27)).alloc (.cells #[.bool m, .slice c lc cc, .slice d ld cd] 27)).alloc (.cells #[.bool false, .slice none 0 0, .slice none 0 0] 27)).alloc (.cells #[.bool n, .slice a la ca, .slice b lb cb, .bool m, .slice c lc cc, .slice d ld cd] 27)).cell? ⟨(((w.alloc (.cells #[.bool n, .slice a la ca, .slice b lb cb] 27)).alloc (.cells #[.bool m, .slice c lc cc, .slice d ld cd] 27)).alloc (.cells #[.bool false, .slice none 0 0, .slice none 0 0] 27)).heap.size, 1, none⟩ = some (.slice a la ca) ∧ ((((w.alloc (.cells #[.bool n, .slice a la ca, .slice b lb cb] 27)).alloc (.cells #[.bool m, .slice c lc cc, .slice d ld cd] 27)).alloc (.cells #[.bool false, .slice none 0 0, .slice none 0 0] 27)).alloc (.cells #[.bool n, .slice a la ca, .slice b lb cb, .bool m, .slice c lc cc, .slice d ld cd] 27)).cell? ⟨(((w.alloc (.cells #[.bool n, .slice a la ca, .slice b lb cb] 27)).alloc (.cells #[.bool m, .slice c lc cc, .slice d ld cd] 27)).alloc (.cells #[.bool false, .slice none 0 0, .slice none 0 0] 27)).heap.size, 2, none⟩ = some (.slice b lb cb) ∧ ((((w.alloc (.cells #[.bool n, .slice a la ca, .slice b lb cb] 27)).alloc (.cells #[.bool m, .slice c lc cc, .slice d ld cd] 27)).alloc (.cells #[.bool false, .slice none 0 0, .slice none 0 0] 27)).alloc (.cells #[.bool n, .slice a la ca, .slice b lb cb, .bool m, .slice c lc cc, .slice d ld cd] 27)).cell? ⟨(((w.alloc (.cells #[.bool n, .slice a la ca, .slice b lb cb] 27)).alloc (.cells #[.bool m, .slice c lc cc, .slice d ld cd] 27)).alloc (.cells #[.bool false, .slice none 0 0, .slice none 0 0] 27)).heap.size, 3, none⟩ = some (.bool m) ∧ ((((w.alloc (.cells #[.bool n, .slice a la ca, .slice b lb cb] 27)).alloc (.cells #[.bool m, .slice c lc cc, .slice d ld cd] 27)).alloc (.cells #[.bool false, .slice none 0 0, .slice none 0 0] 27)).alloc (.cells #[.bool n, .slice a la ca, .slice b lb cb, .bool m, .slice c lc cc, .slice d ld cd] 27)).cell? ⟨(((w.alloc (.cells #[.bool n, .slice a la ca, .slice b lb cb] 27)).alloc (.cells #[.bool m, .slice c lc cc, .slice d ld cd] 27)).alloc (.cells #[.bool false, .slice none 0 0, .slice none 0 0] 27)).heap.size, 4, none⟩ = some (.slice c lc cc) ∧ ((((w.alloc (.cells #[.bool n, .slice a la ca, .slice b lb cb] 27)).alloc (.cells #[.bool m, .slice c lc cc, .slice d ld cd] 27)).alloc (.cells #[.bool false, .slice none 0 0, .slice none 0 0] 27)).alloc (.cells #[.bool n, .slice a la ca, .slice b lb cb, .bool m, .slice c lc cc, .slice d ld cd] 27)).cell? ⟨(((w.alloc (.cells #[.bool n, .slice a la ca, .slice b lb cb] 27)).alloc (.cells #[.bool m, .slice c lc cc, .slice d ld cd] 27)).alloc (.cells #[.bool false, .slice none 0 0, .slice none 0 0] 27)).heap.size, 5, none⟩ = some (.slice d ld cd)) := six_new _ n m a b c d la ca lb cb lc cc ld cd
  simp only [World.size_alloc] at hB hS hR
  rw [← hVe] at hV hA hB hS hR
  have HVe : Hid (V = ((((w.alloc (.cells #[.bool n, .slice a la ca, .slice b lb cb] 27)).alloc (.cells #[.bool m, .slice c lc cc, .slice d ld cd] 27)).alloc (.cells #[.bool false, .slice none 0 0, .slice none 0 0] 27)).alloc (.cells #[.bool n, .slice a la ca, .slice b lb cb, .bool m, .slice c lc cc, .slice d ld cd] 27))) := hVe
  replace h1 := h1.below hV
  replace h2 := h2.below hV
  replace h3 := h3.below hV
  replace h4 := h4.below hV
  clear hv1 hv2 hv3 hv4 hVe
  go_enter Try.func22, Try.ntmps22
  go_wp2_with fail
  rw [← HVe.out]
  obtain ⟨G, hG⟩ : ∃ G, G = w.heap.size := ⟨_, rfl⟩
  rw [← hG] at hA hB hS hR
  rw [← hG]
  have HG : Hid (G = w.heap.size) := hG
  obtain ⟨c0, c1, c2, -, -, -⟩ := hA
  obtain ⟨e0, e1, e2, -, -, -⟩ := hB
  obtain ⟨s0, s1, s2, s3, s4, s5⟩ := hS
  clear HVe hG
  refine (mayF2_any n m a b c d la ca lb cb lc cc ld cd (G + 1 + 1 + 1) xs ys us vs V (fun wx hbx => rgt_ok8 n _ _ _ _ _ _ _ _ wx (h1.below hbx) (h2.below hbx)) (fun wx hbx => rgt_ok8 m _ _ _ _ _ _ _ _ wx (h3.below hbx) (h4.below hbx)) s0 s1 s2 s3 s4 s5).mono ?_
  rintro e w1 ⟨rfl, hb1⟩
  have hB1 := bthen hV hb1
  replace h1 := h1.below hb1
  replace h2 := h2.below hb1
  replace h3 := h3.below hb1
  replace h4 := h4.below hb1
  replace c0 := bkeep hb1 c0 rfl
  replace c1 := bkeep hb1 c1 rfl
  replace c2 := bkeep hb1 c2 rfl
  replace e0 := bkeep hb1 e0 rfl
  replace e1 := bkeep hb1 e1 rfl
  replace e2 := bkeep hb1 e2 rfl
  replace hR := hR.below hb1
  clear hb1 hV s0 s1 s2 s3 s4 s5
  have hgr : w.heap.size ≤ G + 1 + 1 := by rw [HG.out]; omega
  clear HG
  cases hq : (rightF n xs ys && rightF m us vs) with
  | false =>
    have HF : Hid (ToldF f X Y false [] [] 1) := ToldF.bad (by rw [HX.out.1]; unfold arF; rw [hq]; rfl)
    have hBB := put3_below hB1 hgr (.bool false) (.slice none 0 0) (.slice none 0 0)
    obtain ⟨r0, r1, r2, f0, f1, f2⟩ := hR
    clear h1 h2 h3 h4 HX c0 c1 c2 e0 e1 e2 hB1
    go_wp2_with fail
    exact bodyPost_ret (v := .tuple #[.agg #[.bool false, .slice none 0 0, .slice none 0 0], .int .i64 1]) (by simp [results, Try.results22, go_sem, r0, r1, r2]) rfl ⟨false, none, 0, 0, none, 0, 0, [], [], 1, rfl, ⟨Nums.nil _, Nums.nil _⟩, HF.out, hBB⟩
  | true =>
    have hq2 := hq
    rw [Bool.and_eq_true] at hq2
    obtain ⟨hr1, hr2⟩ := hq2
    obtain ⟨hxW, hyN, hy0, hg1, hx16, hy16⟩ := rightF_parts h1.digs h2.digs hr1
    obtain ⟨huW, hvN, hv0, hg2, hu16, hv16⟩ := rightF_parts h3.digs h4.digs hr2
    obtain ⟨x, hxe⟩ : ∃ x, x = iv n xs := ⟨_, rfl⟩
    obtain ⟨y, hye⟩ : ∃ y, y = nv ys := ⟨_, rfl⟩
    obtain ⟨u, hue⟩ : ∃ u, u = iv m us := ⟨_, rfl⟩
    obtain ⟨v, hve⟩ : ∃ v, v = nv vs := ⟨_, rfl⟩
    rw [← hxe] at hxW hg1 hx16
    rw [← hye] at hyN hy0 hg1 hy16
    rw [← hue] at huW hg2 hu16
    rw [← hve] at hvN hv0 hg2 hv16
    have p1 := prod_16 hx16 hv16
    have p2 := prod_16 hu16 hy16
    have p3 : (18446744073709551616 : Int) ^ 32 + 18446744073709551616 ^ 32 < 18446744073709551616 ^ 64 := by decide
    have b1 : ((x * (v : Int)).natAbs : Int) < 18446744073709551616 ^ 64 := by omega
    have b2 : ((u * (y : Int)).natAbs : Int) < 18446744073709551616 ^ 64 := by omega
    have b3 := den_16 hy16 hv16
    have HT : Hid (T = x * (v : Int) - u * (y : Int) ∧ ((x * (v : Int) - u * (y : Int)).natAbs : Int) < 18446744073709551616 ^ 64) := ⟨by rw [HX.out.2.2.1, hxe, hye, hue, hve]; rfl, by omega⟩
    have hD : D = y * v := by rw [HX.out.2.2.2, hye, hve]
    have hD0 : 0 < D := by rw [hD]; exact Nat.mul_pos hy0 hv0
    replace HX : Hid (f = makF T D ∧ X = numF T D ∧ Y = denF T D) := ⟨by rw [HX.out.1]; unfold arF; rw [hq]; rfl, HX.out.2.1.1, HX.out.2.1.2⟩
    have HAl := (show Hid _ from (alike_any n m _ _ _ _ _ _ _ _ _ _ _ _ xs ys us vs _ h1 h2 h3 h4 x u y v hxW hyN huW hvN b1 b2 b3))
    rw [← hD] at HAl
    clear p1 p2 p3 b1 b2 b3 hxe hye hue hve hg1 hg2 hx16 hy16 hu16 hv16 hy0 hv0 hxW hyN huW hvN h1 h2 h3 h4 hr1 hr2 hq hD
    go_wp2_with fail
    refine Calls.mono HAl.out ?_
    rintro e w5 ⟨pb, pa, pl, pc, ps, qb, qa, ql, qc, qs, da, dl, dc, ds, rfl, ⟨hPn, hPW⟩, ⟨hQn, hQW⟩, ⟨hDn, hDN⟩, hb5⟩
    have a1 := balloc w5 (.cells #[.bool pb, .slice pa pl pc] 25)
    have a2 := balloc (w5.alloc (.cells #[.bool pb, .slice pa pl pc] 25)) (.cells #[.bool qb, .slice qa ql qc] 25)
    have a12 := bthen a1 a2
    have hB5 := bthen (bthen hB1 hb5) a12
    replace hR := (hR.below hb5).below a12
    have HAd := (show Hid _ from isub_any pb qb _ _ _ _ _ _ _ _ _ (hPn.below a12) (hQn.below a12))
    replace hDn := hDn.below a12
    clear a1 a2 a12 HAl hPn hQn hb5 hB1 c0 c1 c2 e0 e1 e2
    go_wp2_with fail
    refine Calls.mono HAd.out ?_
    rintro e w6 ⟨tb, ta, tl, tc, ts, err6, rfl, hTn, hRes, hb6⟩
    have hRe := hRes.got hPW.2.1 hQW.2.1
    rw [hPW.2.2, hQW.2.2] at hRe
    obtain ⟨hTW, rfl⟩ := IsW.res hRe HT.out.2
    rw [← HT.out.1] at hTW
    have a3 := balloc w6 (.cells #[.bool tb, .slice ta tl tc] 25)
    have hB6 := bthen (bthen hB5 hb6) a3
    replace hR := (hR.below hb6).below a3
    have HLo := (show Hid _ from lowest_any tb _ _ _ _ _ _ ts ds T D _ (hTn.below a3) ((hDn.below hb6).below a3) hTW hDN hD0)
    clear HAd hPW hQW hDn hDN hB5 hb6 hRes hRe hTn hTW hD0 HT
    rw [← HX.out.1, ← HX.out.2.1, ← HX.out.2.2] at HLo
    clear a3 HX
    go_wp2_with fail
    refine Calls.mono HLo.out ?_
    rintro e w7 ⟨zb, za, zl, zc, za', zl', zc', zs, zs', err, rfl, ⟨hZ1, hZ2⟩, hTold, hb7⟩
    replace hR := hR.below hb7
    have hBB := put3_below (bthen hB6 hb7) hgr (.bool zb) (.slice za zl zc) (.slice za' zl' zc')
    have k1 := Nums.put3 hR hZ1 (.bool zb) (.slice za zl zc) (.slice za' zl' zc')
    have k2 := Nums.put3 hR hZ2 (.bool zb) (.slice za zl zc) (.slice za' zl' zc')
    have HT : Hid (ToldF f X Y zb zs zs' err) := hTold
    obtain ⟨r0, r1, r2, f0, f1, f2⟩ := hR
    clear HLo hZ1 hZ2 hTold hb7 hB6 hgr
    go_wp2_with fail
    exact bodyPost_ret (v := .tuple #[.agg #[.bool zb, .slice za zl zc, .slice za' zl' zc'], .int .i64 err]) (by simp [results, Try.results22, go_sem, r0, r1, r2]) rfl ⟨zb, za, zl, zc, za', zl', zc', zs, zs', err, rfl, ⟨k1, k2⟩, HT.out, hBB⟩

set_option maxRecDepth 20000 in
set_option maxHeartbeats 20000000 in
theorem mul_ok8 : MulOk8 := by
  intro n m a b c d la ca lb cb lc cc ld cd xs ys us vs w h1 h2 h3 h4
  obtain ⟨T, hT⟩ : ∃ T, T = mulT n xs m us := ⟨_, rfl⟩
  rw [← hT]
  obtain ⟨D, hD⟩ : ∃ D, D = nv ys * nv vs := ⟨_, rfl⟩
  rw [← hD]
  obtain ⟨f, hf⟩ : ∃ f, f = arF n xs ys m us vs T D := ⟨_, rfl⟩
  obtain ⟨X, hX⟩ : ∃ X, X = numF T D := ⟨_, rfl⟩
  obtain ⟨Y, hY⟩ : ∃ Y, Y = denF T D := ⟨_, rfl⟩
  rw [← hf, ← hX, ← hY]
  have HX : Hid (f = arF n xs ys m us vs T D ∧ (X = numF T D ∧ Y = denF T D) ∧ T = mulT n xs m us ∧ D = nv ys * nv vs) := ⟨hf, ⟨hX, hY⟩, hT, hD⟩
  clear hf hX hY hT hD
  obtain ⟨V, hVe⟩ : ∃ V, V = ((((w.alloc (.cells #[.bool n, .slice a la ca, .slice b lb cb] 27)).alloc (.cells #[.bool m, .slice c lc cc, .slice d ld cd] 27)).alloc (.cells #[.bool false, .slice none 0 0, .slice none 0 0] 27)).alloc (.cells #[.bool n, .slice a la ca, .slice b lb cb, .bool m, .slice c lc cc, .slice d ld cd] 27)) := ⟨_, rfl⟩
  have hv1 := balloc w (.cells #[.bool n, .slice a la ca, .slice b lb cb] 27)
  have hv2 := balloc (w.alloc (.cells #[.bool n, .slice a la ca, .slice b lb cb] 27)) (.cells #[.bool m, .slice c lc cc, .slice d ld cd] 27)
  have hv3 := balloc ((w.alloc (.cells #[.bool n, .slice a la ca, .slice b lb cb] 27)).alloc (.cells #[.bool m, .slice c lc cc, .slice d ld cd] 27)) (.cells #[.bool false, .slice none 0 0, .slice none 0 0] 27)
  have hv4 := balloc (((w.alloc (.cells #[.bool n, .slice a la ca, .slice b lb cb] 27)).alloc (.cells #[.bool m, .slice c lc cc, .slice d ld cd] 27)).alloc (.cells #[.bool false, .slice none 0 0, .slice none 0 0] 27)) (.cells #[.bool n, .slice a la ca, .slice b lb cb, .bool m, .slice c lc cc, .slice d ld cd] 27)
  have hV := bthen (bthen (bthen (hv1) hv2) hv3) hv4
  have hA := (Cell3.new w n a b la ca lb cb).below (bthen (bthen (hv2) hv3) hv4)
  have hB := (Cell3.new (w.alloc (.cells #[.bool n, .slice a la ca, .slice b lb cb] 27)) m c d lc cc ld cd).below (bthen (hv3) hv4)
  have hR := (Cell3.new ((w.alloc (.cells #[.bool n, .slice a la ca, .slice b lb cb] 27)).alloc (.cells #[.bool m, .slice c lc cc, .slice d ld cd] 27)) false none none 0 0 0 0).below (hv4)
  have hS : (((((w.alloc (.cells #[.bool n, .slice a la ca, .slice b lb cb] 27)).alloc (.cells #[.bool m, .slice c lc cc, .slice d ld cd] 27)).alloc (.cells #[.bool false, .slice none 0 0, .slice none 0 0] 27)).alloc (.cells #[.bool n, .slice a la ca, .slice b lb cb, .bool m, .slice c lc cc, .slice d ld cd] 27)).cell? ⟨(((w.alloc (.cells #[.bool n, .slice a la ca, .slice b lb cb] 27)).alloc (.cells #[.bool m, .slice c lc cc, .slice d ld cd] 27)).alloc (.cells #[.bool false, .slice none 0 0, .slice none 0 0] 27)).heap.size, 0, none⟩ = some (.bool n) ∧ ((((w.alloc (.cells #[.bool n, .slice a la ca, .slice b lb cb] 27)).alloc (.cells #[.bool m, .slice c lc cc, .slice d ld cd] 27)).alloc (.cells #[.bool false, .slice none 0 0, .slice none 0 0] 27)).alloc (.cells #[.bool n, .slice a la ca, .slice b lb cb, .bool m, .slice c lc cc, .slice d ld cd] 27)).cell? ⟨(((w.alloc (.cells #[.bool n, .slice a la ca, .slice b lb cb] 27)).alloc (.cells #[.bool m, .slice c lc cc, .slice d ld cd] 27)).alloc (.cells #[.bool false, .slice none 0 0, .slice none 0 0] 27)).heap.size, 1, none⟩ = some (.slice a la ca) ∧ ((((w.alloc (.cells #[.bool n, .slice a la ca, .slice b lb cb] 27)).alloc (.cells #[.bool m, .slice c lc cc, .slice d ld cd] 27)).alloc (.cells #[.bool false, .slice none 0 0, .slice none 0 0] 27)).alloc (.cells #[.bool n, .slice a la ca, .slice b lb cb, .bool m, .slice c lc cc, .slice d ld cd] 27)).cell? ⟨(((w.alloc (.cells #[.bool n, .slice a la ca, .slice b lb cb] 27)).alloc (.cells #[.bool m, .slice c lc cc, .slice d ld cd] 27)).alloc (.cells #[.bool false, .slice none 0 0, .slice none 0 0] 27)).heap.size, 2, none⟩ = some (.slice b lb cb) ∧ ((((w.alloc (.cells #[.bool n, .slice a la ca, .slice b lb cb] 27)).alloc (.cells #[.bool m, .slice c lc cc, .slice d ld cd] 27)).alloc (.cells #[.bool false, .slice none 0 0, .slice none 0 0] 27)).alloc (.cells #[.bool n, .slice a la ca, .slice b lb cb, .bool m, .slice c lc cc, .slice d ld cd] 27)).cell? ⟨(((w.alloc (.cells #[.bool n, .slice a la ca, .slice b lb cb] 27)).alloc (.cells #[.bool m, .slice c lc cc, .slice d ld cd] 27)).alloc (.cells #[.bool false, .slice none 0 0, .slice none 0 0] 27)).heap.size, 3, none⟩ = some (.bool m) ∧ ((((w.alloc (.cells #[.bool n, .slice a la ca, .slice b lb cb] 27)).alloc (.cells #[.bool m, .slice c lc cc, .slice d ld cd] 27)).alloc (.cells #[.bool false, .slice none 0 0, .slice none 0 0] 27)).alloc (.cells #[.bool n, .slice a la ca, .slice b lb cb, .bool m, .slice c lc cc, .slice d ld cd] 27)).cell? ⟨(((w.alloc (.cells #[.bool n, .slice a la ca, .slice b lb cb] 27)).alloc (.cells #[.bool m, .slice c lc cc, .slice d ld cd] 27)).alloc (.cells #[.bool false, .slice none 0 0, .slice none 0 0] 27)).heap.size, 4, none⟩ = some (.slice c lc cc) ∧ ((((w.alloc (.cells #[.bool n, .slice a la ca, .slice b lb cb] 27)).alloc (.cells #[.bool m, .slice c lc cc, .slice d ld cd] 27)).alloc (.cells #[.bool false, .slice none 0 0, .slice none 0 0] 27)).alloc (.cells #[.bool n, .slice a la ca, .slice b lb cb, .bool m, .slice c lc cc, .slice d ld cd] 27)).cell? ⟨(((w.alloc (.cells #[.bool n, .slice a la ca, .slice b lb cb] 27)).alloc (.cells #[.bool m, .slice c lc cc, .slice d ld cd] 27)).alloc (.cells #[.bool false, .slice none 0 0, .slice none 0 0] 27)).heap.size, 5, none⟩ = some (.slice d ld cd)) := six_new _ n m a b c d la ca lb cb lc cc ld cd
  simp only [World.size_alloc] at hB hS hR
  rw [← hVe] at hV hA hB hS hR
  have HVe : Hid (V = ((((w.alloc (.cells #[.bool n, .slice a la ca, .slice b lb cb] 27)).alloc (.cells #[.bool m, .slice c lc cc, .slice d ld cd] 27)).alloc (.cells #[.bool false, .slice none 0 0, .slice none 0 0] 27)).alloc (.cells #[.bool n, .slice a la ca, .slice b lb cb, .bool m, .slice c lc cc, .slice d ld cd] 27))) := hVe
  replace h1 := h1.below hV
  replace h2 := h2.below hV
  replace h3 := h3.below hV
  replace h4 := h4.below hV
  clear hv1 hv2 hv3 hv4 hVe
  go_enter Try.func24, Try.ntmps24
  go_wp2_with fail
  rw [← HVe.out]
  obtain ⟨G, hG⟩ : ∃ G, G = w.heap.size := ⟨_, rfl⟩
  rw [← hG] at hA hB hS hR
  rw [← hG]
  have HG : Hid (G = w.heap.size) := hG
  obtain ⟨c0, c1, c2, -, -, -⟩ := hA
  obtain ⟨e0, e1, e2, -, -, -⟩ := hB
  obtain ⟨s0, s1, s2, s3, s4, s5⟩ := hS
  clear HVe hG
  refine (mayF2_any n m a b c d la ca lb cb lc cc ld cd (G + 1 + 1 + 1) xs ys us vs V (fun wx hbx => rgt_ok8 n _ _ _ _ _ _ _ _ wx (h1.below hbx) (h2.below hbx)) (fun wx hbx => rgt_ok8 m _ _ _ _ _ _ _ _ wx (h3.below hbx) (h4.below hbx)) s0 s1 s2 s3 s4 s5).mono ?_
  rintro e w1 ⟨rfl, hb1⟩
  have hB1 := bthen hV hb1
  replace h1 := h1.below hb1
  replace h2 := h2.below hb1
  replace h3 := h3.below hb1
  replace h4 := h4.below hb1
  replace c0 := bkeep hb1 c0 rfl
  replace c1 := bkeep hb1 c1 rfl
  replace c2 := bkeep hb1 c2 rfl
  replace e0 := bkeep hb1 e0 rfl
  replace e1 := bkeep hb1 e1 rfl
  replace e2 := bkeep hb1 e2 rfl
  replace hR := hR.below hb1
  clear hb1 hV s0 s1 s2 s3 s4 s5
  have hgr : w.heap.size ≤ G + 1 + 1 := by rw [HG.out]; omega
  clear HG
  cases hq : (rightF n xs ys && rightF m us vs) with
  | false =>
    have HF : Hid (ToldF f X Y false [] [] 1) := ToldF.bad (by rw [HX.out.1]; unfold arF; rw [hq]; rfl)
    have hBB := put3_below hB1 hgr (.bool false) (.slice none 0 0) (.slice none 0 0)
    obtain ⟨r0, r1, r2, f0, f1, f2⟩ := hR
    clear h1 h2 h3 h4 HX c0 c1 c2 e0 e1 e2 hB1
    go_wp2_with fail
    exact bodyPost_ret (v := .tuple #[.agg #[.bool false, .slice none 0 0, .slice none 0 0], .int .i64 1]) (by simp [results, Try.results24, go_sem, r0, r1, r2]) rfl ⟨false, none, 0, 0, none, 0, 0, [], [], 1, rfl, ⟨Nums.nil _, Nums.nil _⟩, HF.out, hBB⟩
  | true =>
    have hq2 := hq
    rw [Bool.and_eq_true] at hq2
    obtain ⟨hr1, hr2⟩ := hq2
    obtain ⟨hxW, hyN, hy0, hg1, hx16, hy16⟩ := rightF_parts h1.digs h2.digs hr1
    obtain ⟨huW, hvN, hv0, hg2, hu16, hv16⟩ := rightF_parts h3.digs h4.digs hr2
    obtain ⟨x, hxe⟩ : ∃ x, x = iv n xs := ⟨_, rfl⟩
    obtain ⟨y, hye⟩ : ∃ y, y = nv ys := ⟨_, rfl⟩
    obtain ⟨u, hue⟩ : ∃ u, u = iv m us := ⟨_, rfl⟩
    obtain ⟨v, hve⟩ : ∃ v, v = nv vs := ⟨_, rfl⟩
    rw [← hxe] at hxW hg1 hx16
    rw [← hye] at hyN hy0 hg1 hy16
    rw [← hue] at huW hg2 hu16
    rw [← hve] at hvN hv0 hg2 hv16
    have p1 : ((x * u).natAbs : Int) < 18446744073709551616 ^ 64 := mul_16 hx16 hu16
    have b3 := den_16 hy16 hv16
    have HT : Hid (T = x * u ∧ ((x * u).natAbs : Int) < 18446744073709551616 ^ 64) := ⟨by rw [HX.out.2.2.1, hxe, hue]; rfl, p1⟩
    have hD : D = y * v := by rw [HX.out.2.2.2, hye, hve]
    have hD0 : 0 < D := by rw [hD]; exact Nat.mul_pos hy0 hv0
    have HD : Hid (D = y * v ∧ ((D : Nat) : Int) < 18446744073709551616 ^ 64) := ⟨hD, by rw [hD]; exact b3⟩
    replace HX : Hid (f = makF T D ∧ X = numF T D ∧ Y = denF T D) := ⟨by rw [HX.out.1]; unfold arF; rw [hq]; rfl, HX.out.2.1.1, HX.out.2.1.2⟩
    have HAd := (show Hid _ from imul_any n m _ _ _ _ _ _ _ _ _ h1 h3)
    clear p1 b3 hxe hye hue hve hg1 hg2 hx16 hy16 hu16 hv16 hy0 hv0 hr1 hr2 hq hD
    go_wp2_with fail
    refine Calls.mono HAd.out ?_
    rintro e w5 ⟨tb, ta, tl, tc, ts, err5, rfl, hTn, hRes, hb5⟩
    have hRe := hRes.got hxW.2.1 huW.2.1
    rw [hxW.2.2, huW.2.2] at hRe
    obtain ⟨hTW, rfl⟩ := IsW.res hRe HT.out.2
    rw [← HT.out.1] at hTW
    have a3 := balloc w5 (.cells #[.bool tb, .slice ta tl tc] 25)
    have b53 := bthen hb5 a3
    have hB5 := bthen hB1 b53
    replace hR := hR.below b53
    replace hTn := hTn.below a3
    replace c2 := bkeep b53 c2 rfl
    replace e2 := bkeep b53 e2 rfl
    have tt0 : (w5.alloc (.cells #[.bool tb, .slice ta tl tc] 25)).cell? ⟨w5.heap.size, 0, none⟩ = some (.bool tb) := by simp
    have tt1 : (w5.alloc (.cells #[.bool tb, .slice ta tl tc] 25)).cell? ⟨w5.heap.size, 1, none⟩ = some (.slice ta tl tc) := by simp
    have HMu := (show Hid _ from mul_any _ _ _ _ _ _ _ _ _ (h2.below b53) (h4.below b53))
    clear HAd hRes hRe hxW huW h1 h2 h3 h4 hb5 b53 hB1 c0 c1 e0 e1 HT
    go_wp2_with fail
    refine Calls.mono HMu.out ?_
    rintro e w6 ⟨da, dl, dc, ds, err, rfl, hDn, hRes, -, hb6⟩
    have hDs := hRes.got hyN.2.1 hvN.2.1
    rw [hyN.2.2, hvN.2.2, ← Int.natCast_mul, ← HD.out.1] at hDs
    have hDN := (IsN.res hDs HD.out.2).1
    have hB6 := bthen hB5 hb6
    replace hR := hR.below hb6
    replace tt0 := bkeep hb6 tt0 rfl
    replace tt1 := bkeep hb6 tt1 rfl
    have HLo := (show Hid _ from lowest_any tb _ _ _ _ _ _ ts ds T D _ (hTn.below hb6) hDn hTW hDN hD0)
    clear HMu hRes hDs hDn hDN hB5 hb6 hTn hTW hD0 HD hyN hvN c2 e2
    rw [← HX.out.1, ← HX.out.2.1, ← HX.out.2.2] at HLo
    clear a3 HX
    go_wp2_with fail
    refine Calls.mono HLo.out ?_
    rintro e w7 ⟨zb, za, zl, zc, za', zl', zc', zs, zs', err, rfl, ⟨hZ1, hZ2⟩, hTold, hb7⟩
    replace hR := hR.below hb7
    have hBB := put3_below (bthen hB6 hb7) hgr (.bool zb) (.slice za zl zc) (.slice za' zl' zc')
    have k1 := Nums.put3 hR hZ1 (.bool zb) (.slice za zl zc) (.slice za' zl' zc')
    have k2 := Nums.put3 hR hZ2 (.bool zb) (.slice za zl zc) (.slice za' zl' zc')
    have HT : Hid (ToldF f X Y zb zs zs' err) := hTold
    obtain ⟨r0, r1, r2, f0, f1, f2⟩ := hR
    clear HLo hZ1 hZ2 hTold hb7 hB6 hgr
    go_wp2_with fail
    exact bodyPost_ret (v := .tuple #[.agg #[.bool zb, .slice za zl zc, .slice za' zl' zc'], .int .i64 err]) (by simp [results, Try.results24, go_sem, r0, r1, r2]) rfl ⟨zb, za, zl, zc, za', zl', zc', zs, zs', err, rfl, ⟨k1, k2⟩, HT.out, hBB⟩

end Go.Proofs.Ytfeapegdaffckaa

/-
  Contracts of the document's Right, Make and Same (rational).
-/
import Derived.Test.YtfeapegdaffckaaR8Ans
import Derived.Test.YtfeapegdaffckaaRefGcd
import Derived.Test.YtfeapegdaffckaaRefB
import Derived.Test.YtfeapegdaffckaaNatA
import Derived.Test.YtfeapegdaffckaaModA
namespace Go.Proofs.Ytfeapegdaffckaa
open Go.RowKit

theorem len_16 {ls : List Int} {v : Nat} (h : IsN ls v) : ls.length ≤ 16 ↔ v < 18446744073709551616 ^ 16 := by
  constructor
  · intro hl
    have h1 := Int.lt_of_lt_of_le (val_lt_pow (B := 18446744073709551616) (by decide) h.1 (Nat.le_refl _)) (pow_mono (B := 18446744073709551616) (by decide) hl)
    rw [h.2.2] at h1
    have e : ((18446744073709551616 ^ 16 : Nat) : Int) = 18446744073709551616 ^ 16 := by decide
    omega
  · intro hv
    refine h.len (k := 16) ?_
    have e : ((18446744073709551616 ^ 16 : Nat) : Int) = 18446744073709551616 ^ 16 := by decide
    omega
theorem cmpZ_eq0 {x y : Int} : cmpZ x y = 0 ↔ x = y := by
  unfold cmpZ
  split <;> (try split) <;> omega
theorem gcd_isN {zs ys ls : List Int} {x y : Nat} {e : Int} (hx : IsN zs x) (hy : IsN ys y) (h : ResGcd zs ys ls e) : IsN ls (Nat.gcd x y) := by
  unfold ResGcd at h
  rw [hx.2.1, hy.2.1, if_pos (by rfl), hx.2.2, hy.2.2] at h
  refine ⟨h.2.1, h.2.2.1, h.2.2.2.trans ?_⟩
  unfold gz
  rw [Int.toNat_natCast, Int.toNat_natCast]

set_option maxRecDepth 20000 in
set_option maxHeartbeats 3200000 in
theorem r8right_any (n : Bool) (a b : Option Addr) (la ca lb cb : Nat) (xs ys : List Int) (w : World) (h : Nums w a la ca xs) (h' : Nums w b lb cb ys) :
    Calls Try.prog 14 #[.agg #[.bool n, .slice a la ca, .slice b lb cb]] w fun e w' => e = .returned (.bool (rightF n xs ys)) ∧ Below w.heap.size w w' := by
  have hV := (Below.refl w.heap.size w).alloc (Nat.le_refl _) (.cells #[.bool n, .slice a la ca, .slice b lb cb] 27)
  have c0 : (w.alloc (.cells #[.bool n, .slice a la ca, .slice b lb cb] 27)).cell? ⟨w.heap.size, 0, none⟩ = some (.bool n) := by simp
  have c1 : (w.alloc (.cells #[.bool n, .slice a la ca, .slice b lb cb] 27)).cell? ⟨w.heap.size, 1, none⟩ = some (.slice a la ca) := by simp
  have c2 : (w.alloc (.cells #[.bool n, .slice a la ca, .slice b lb cb] 27)).cell? ⟨w.heap.size, 2, none⟩ = some (.slice b lb cb) := by simp
  replace h := h.below hV
  replace h' := h'.below hV
  have hl := h.hlen
  have hl' := h'.hlen
  have hm1 := h.hmax
  have hm2 := h'.hmax
  have hc1 := h.hcap
  have hc2 := h'.hcap
  unfold maxLen at hm1 hm2
  have HL : Hid (xs.length = la ∧ ys.length = lb) := ⟨hl, hl'⟩
  clear hl hl'
  go_enter Try.func14, Try.ntmps14
  go_wp2_with fail
  generalize w.alloc (.cells #[.bool n, .slice a la ca, .slice b lb cb] 27) = V at *
  refine (refIRight_any n _ _ _ _ _ h).mono ?_
  rintro e w1 ⟨rfl, hb1⟩
  have hB1 := hV.trans (hb1.mono hV.size)
  replace h := h.below hb1
  replace h' := h'.below hb1
  replace c0 := bkeep hb1 c0 rfl
  replace c1 := bkeep hb1 c1 rfl
  replace c2 := bkeep hb1 c2 rfl
  have HR := (show Hid _ from refRight_any _ _ _ _ _ h')
  clear hV hb1
  cases hr : rightI n xs with
  | false =>
    have HE : Hid (rightF n xs ys = false) := by show _ = _; unfold rightF; rw [hr]; rfl
    clear h h'
    go_wp2_with fail
    refine Calls.mono HR.out ?_
    rintro e w2 ⟨rfl, rfl⟩
    clear HR
    go_wp2
    go_ret
    exact ⟨ret_bool HE.out.symm, hB1⟩
  | true =>
  cases hr' : rightB ys with
  | false =>
    rw [hr'] at HR
    have HE : Hid (rightF n xs ys = false) := by show _ = _; unfold rightF; rw [hr', Bool.false_and, Bool.and_false]
    clear h h'
    go_wp2_with fail
    refine Calls.mono HR.out ?_
    rintro e w2 ⟨rfl, rfl⟩
    clear HR
    go_wp2
    go_ret
    exact ⟨ret_bool HE.out.symm, hB1⟩
  | true =>
    rw [hr'] at HR
    go_wp2_with fail
    refine Calls.mono HR.out ?_
    rintro e w2 ⟨rfl, rfl⟩
    clear HR
    by_cases h0 : lb = 0
    · subst h0
      have HE : Hid (rightF n xs ys = false) := by
        show _ = _
        unfold rightF
        rw [HL.out.2]
        simp
      clear h h'
      go_wp2
      go_ret
      exact ⟨ret_bool HE.out.symm, hB1⟩
    have h0i : ((lb : Int) == 0) = false := by simp; omega
    by_cases h16 : 16 < lb
    · have h16i : (16 : Int) < (lb : Int) := by omega
      have HE : Hid (rightF n xs ys = false) := by
        show _ = _
        unfold rightF
        rw [HL.out.2, decide_eq_false (show ¬ lb ≤ 16 by omega), Bool.false_and, Bool.and_false, Bool.and_false, Bool.and_false]
      clear h h'
      go_wp2
      go_ret
      exact ⟨ret_bool HE.out.symm, hB1⟩
    have h16i : decide ((16 : Int) < (lb : Int)) = false := decide_eq_false (by omega)
    by_cases g16 : 16 < la
    · have g16i : (16 : Int) < (la : Int) := by omega
      have HE : Hid (rightF n xs ys = false) := by
        show _ = _
        unfold rightF
        rw [HL.out.1, decide_eq_false (show ¬ la ≤ 16 by omega), Bool.false_and, Bool.and_false, Bool.and_false, Bool.and_false, Bool.and_false]
      clear h h'
      go_wp2
      go_ret
      exact ⟨ret_bool HE.out.symm, hB1⟩
    have g16i : decide ((16 : Int) < (la : Int)) = false := decide_eq_false (by omega)
    have hx := IsN.self h.digs ((rightI_iff n xs).1 hr).1
    have hy := IsN.self h'.digs hr'
    have HE : Hid (rightF n xs ys = decide (Nat.gcd (nv xs) (nv ys) = 1)) := by
      show _ = _
      unfold rightF
      rw [hr, hr', HL.out.1, HL.out.2, decide_eq_true (show 0 < lb by omega), decide_eq_true (show lb ≤ 16 by omega), decide_eq_true (show la ≤ 16 by omega)]
      rfl
    go_wp2_with fail
    refine (refGcd_all _ _ _ _ _ _ _ _ _ h h').mono ?_
    rintro e w3 ⟨ga, gl, gc, gs, ge, rfl, hG, hRes, hb3⟩
    have hg := gcd_isN hx hy hRes
    have hB3 := hB1.trans (hb3.mono hB1.size)
    clear h h' hx hy hRes hb3 hB1 c0 c1 c2
    go_wp2_with fail
    refine (refOf_any 1 _ (by omega)).mono ?_
    rintro e w4 ⟨oa, ol, oc, rfl, hO, hb4⟩
    have hB4 := hB3.trans (hb4.mono hB3.size)
    have HC := (show Hid _ from refCmp_any _ _ _ _ _ _ _ _ _ (hG.below hb4) hO)
    rw [cmpN_nat hg one_isN] at HC
    have HZ : Hid ((cmpZ ((Nat.gcd (nv xs) (nv ys) : Nat) : Int) ((1 : Nat) : Int) == 0) = rightF n xs ys) := by
      show _ = _
      rw [HE.out]
      by_cases e : Nat.gcd (nv xs) (nv ys) = 1
      · rw [decide_eq_true e, e]; rfl
      · rw [decide_eq_false e]
        have : ¬ cmpZ ((Nat.gcd (nv xs) (nv ys) : Nat) : Int) ((1 : Nat) : Int) = 0 := fun k => e (by have := cmpZ_eq0.1 k; omega)
        simpa using this
    obtain ⟨q, hq⟩ : ∃ q, q = cmpZ ((Nat.gcd (nv xs) (nv ys) : Nat) : Int) ((1 : Nat) : Int) := ⟨_, rfl⟩
    rw [← hq] at HC HZ
    clear hG hO hg hb4 hB3 hq HE
    go_wp2_with fail
    refine Calls.mono HC.out ?_
    rintro e w5 ⟨rfl, hb5⟩
    have hB5 := hB4.trans (hb5.mono hB4.size)
    clear HC hb5 hB4
    go_wp2
    go_ret
    exact ⟨ret_bool HZ.out, hB5⟩

set_option maxHeartbeats 800000 in
theorem r8same_any (n m : Bool) (a b c d : Option Addr) (la ca lb cb lc cc ld cd : Nat) (xs ys us vs : List Int) (w : World) (h1 : Nums w a la ca xs) (h2 : Nums w b lb cb ys) (h3 : Nums w c lc cc us) (h4 : Nums w d ld cd vs) :
    Calls Try.prog 12 #[.agg #[.bool n, .slice a la ca, .slice b lb cb], .agg #[.bool m, .slice c lc cc, .slice d ld cd]] w fun e w' => e = .returned (.bool (decide (n = m) && sameB xs us && sameB ys vs)) ∧ Below w.heap.size w w' := by
  obtain ⟨V, hVe⟩ : ∃ V, V = (w.alloc (.cells #[.bool n, .slice a la ca, .slice b lb cb] 27)).alloc (.cells #[.bool m, .slice c lc cc, .slice d ld cd] 27) := ⟨_, rfl⟩
  have hv1 := (Below.refl w.heap.size w).alloc (Nat.le_refl _) (.cells #[.bool n, .slice a la ca, .slice b lb cb] 27)
  have hv2 := (Below.refl (w.alloc (.cells #[.bool n, .slice a la ca, .slice b lb cb] 27)).heap.size (w.alloc (.cells #[.bool n, .slice a la ca, .slice b lb cb] 27))).alloc (Nat.le_refl _) (.cells #[.bool m, .slice c lc cc, .slice d ld cd] 27)
  have hV := hv1.trans (hv2.mono hv1.size)
  have c2 : (w.alloc (.cells #[.bool n, .slice a la ca, .slice b lb cb] 27)).cell? ⟨w.heap.size, 2, none⟩ = some (.slice b lb cb) := by simp
  replace c2 := bkeep hv2 c2 rfl
  rw [← hVe] at hV c2
  have d2 : V.cell? ⟨w.heap.size + 1, 2, none⟩ = some (.slice d ld cd) := by rw [hVe]; simp
  have HVe : Hid (V = (w.alloc (.cells #[.bool n, .slice a la ca, .slice b lb cb] 27)).alloc (.cells #[.bool m, .slice c lc cc, .slice d ld cd] 27)) := hVe
  clear hVe hv1 hv2
  go_enter Try.func12, Try.ntmps12
  go_wp2_with fail
  rw [← HVe.out]
  refine (isame_any n m _ _ _ _ _ _ _ _ _ (h1.below hV) (h3.below hV)).mono ?_
  rintro e w1 ⟨rfl, hb1⟩
  have hB1 := hV.trans (hb1.mono hV.size)
  replace c2 := bkeep hb1 c2 rfl
  replace d2 := bkeep hb1 d2 rfl
  replace h2 := h2.below hB1
  replace h4 := h4.below hB1
  obtain ⟨t, ht⟩ : ∃ t, t = (decide (n = m) && sameB xs us) := ⟨_, rfl⟩
  rw [← ht]
  have HT : Hid (t = (decide (n = m) && sameB xs us)) := ht
  clear ht HVe hb1 hV h1 h3
  go_wp2_with fail
  refine (same_any _ _ _ _ _ _ _ _ _ h2 h4).mono ?_
  rintro e w2 ⟨rfl, hb2⟩
  have hB2 := hB1.trans (hb2.mono hB1.size)
  obtain ⟨u, hu⟩ : ∃ u, u = sameB ys vs := ⟨_, rfl⟩
  rw [← hu]
  have HU : Hid (u = sameB ys vs) := hu
  clear hu h2 h4 hB1 hb2 c2 d2
  cases t with
  | false =>
    go_wp2
    go_ret
    exact ⟨ret_bool (by rw [← HT.out]; rfl), hB2⟩
  | true =>
    go_wp2
    go_ret
    exact ⟨ret_bool (by rw [← HT.out, ← HU.out]; rfl), hB2⟩
end Go.Proofs.Ytfeapegdaffckaa

/-
  The contract of the document's Make (rational).
-/
import Derived.Test.YtfeapegdaffckaaRef8A
import Derived.Laws.NewBlocks
namespace Go.Proofs.Ytfeapegdaffckaa
open Go.RowKit

/-- What a call that tells a fraction or a fault makes. -/
def FracT (f : Option Int) (x : Int) (y : Nat) (w : World) (e : Ending) (w' : World) : Prop := ∃ m p l c q l' c' us vs err, e = .returned (.tuple #[.agg #[.bool m, .slice p l c, .slice q l' c'], .int .i64 err]) ∧ (Nums w' p l c us ∧ Nums w' q l' c' vs) ∧ ToldF f x y m us vs err ∧ Below w.heap.size w w'
def makeFF (n : Bool) (xs ys : List Int) : Option Int := if rightI n xs && rightB ys then makF (iv n xs) (nv ys) else some 1

/-- The cells of a fraction's variable. -/
structure Cell3 (w : World) (g : Nat) (p : Bool) (a : Option Addr) (l c : Nat) (b : Option Addr) (l' c' : Nat) : Prop where
  c0 : w.cell? ⟨g, 0, none⟩ = some (.bool p)
  c1 : w.cell? ⟨g, 1, none⟩ = some (.slice a l c)
  c2 : w.cell? ⟨g, 2, none⟩ = some (.slice b l' c')
  f0 : w.frozen? ⟨g, 0, none⟩ = false
  f1 : w.frozen? ⟨g, 1, none⟩ = false
  f2 : w.frozen? ⟨g, 2, none⟩ = false
theorem Cell3.below {w w' : World} {g : Nat} {p : Bool} {a b : Option Addr} {l c l' c' : Nat} (h : Cell3 w g p a l c b l' c') (hb : Below w.heap.size w w') : Cell3 w' g p a l c b l' c' := by
  have hlt := World.block_lt_of_cell? _ _ h.c0
  exact ⟨bkeep hb h.c0 rfl, bkeep hb h.c1 rfl, bkeep hb h.c2 rfl, ((bcell hb).2 _ _ hlt).trans h.f0, ((bcell hb).2 _ _ hlt).trans h.f1, ((bcell hb).2 _ _ hlt).trans h.f2⟩
theorem Cell3.new (w : World) (p : Bool) (a b : Option Addr) (l c l' c' : Nat) : Cell3 (w.alloc (.cells #[.bool p, .slice a l c, .slice b l' c'] 27)) w.heap.size p a l c b l' c' :=
  ⟨by simp, by simp, by simp, by simp, by simp, by simp⟩
/-- A fraction is stored: no word has turned. -/
theorem Nums.put3 {w : World} {g : Nat} {p : Bool} {a b : Option Addr} {l c l' c' : Nat} (h : Cell3 w g p a l c b l' c') {q : Option Addr} {n m : Nat} {zs : List Int} (hn : Nums w q n m zs) (x y z : Value) :
    Nums (((w.setCell ⟨g, 0, none⟩ x).setCell ⟨g, 1, none⟩ y).setCell ⟨g, 2, none⟩ z) q n m zs := by
  refine (hn.put2 h.c0 h.c1 x y).put (x := .slice b l' c') ?_ (fun z => by simp) z
  rw [World.cell?_setCell_other, World.cell?_setCell_other]
  · exact h.c2
  · simp
  · simp
theorem put3_below {B : Nat} {a w : World} (h : Below B a w) {g : Nat} (hg : B ≤ g) (x y z : Value) : Below B a (((w.setCell ⟨g, 0, none⟩ x).setCell ⟨g, 1, none⟩ y).setCell ⟨g, 2, none⟩ z) :=
  ((h.setCell (p := ⟨g, 0, none⟩) hg x).setCell (p := ⟨g, 1, none⟩) hg y).setCell (p := ⟨g, 2, none⟩) hg z

theorem div_isN {zs ys qs rs : List Int} {x y : Nat} {err : Int} (hx : IsN zs x) (hy : IsN ys y) (hp : 0 < y) (h : ResDiv zs ys qs rs err) : IsN qs (x / y) := by
  unfold ResDiv at h
  rw [hx.2.1, hy.2.1, if_pos (by rfl), if_neg (by have := hy.pos hp; omega), hx.2.2, hy.2.2] at h
  obtain ⟨_, k1, _, k2, _, k3, _⟩ := h
  exact ⟨k1, k2, by rw [k3, ← Int.natCast_ediv]⟩
theorem num_from {n : Bool} {x : Int} {y : Nat} (hn : n = decide (x < 0)) (hy : 0 < y) : (if n then -((x.natAbs / gF x y : Nat) : Int) else ((x.natAbs / gF x y : Nat) : Int)) = numF x y := by
  have h1 := num_abs x y
  have h2 := (num_sign (x := x) hy).1
  rw [← h1]
  subst hn
  by_cases c : x < 0
  · rw [decide_eq_true c, if_pos rfl]
    have := h2.2 c
    omega
  · rw [decide_eq_false c, if_neg (by simp)]
    have : ¬ numF x y < 0 := fun k => c (h2.1 k)
    omega

set_option maxRecDepth 20000 in
set_option maxHeartbeats 6400000 in
theorem r8make_any (n : Bool) (a b : Option Addr) (la ca lb cb : Nat) (xs ys : List Int) (w : World) (h : Nums w a la ca xs) (h' : Nums w b lb cb ys) :
    Calls Try.prog 11 #[.agg #[.bool n, .slice a la ca], .slice b lb cb] w fun e w' => FracT (makeFF n xs ys) (numF (iv n xs) (nv ys)) (denF (iv n xs) (nv ys)) w e w' := by
  obtain ⟨X, hX⟩ : ∃ X, X = numF (iv n xs) (nv ys) := ⟨_, rfl⟩
  obtain ⟨Y, hY⟩ : ∃ Y, Y = denF (iv n xs) (nv ys) := ⟨_, rfl⟩
  rw [← hX, ← hY]
  have HXY : Hid (X = numF (iv n xs) (nv ys) ∧ Y = denF (iv n xs) (nv ys)) := ⟨hX, hY⟩
  clear hX hY
  obtain ⟨V, hVe⟩ : ∃ V, V = (w.alloc (.cells #[.bool n, .slice a la ca] 25)).alloc (.cells #[.bool false, .slice none 0 0, .slice none 0 0] 27) := ⟨_, rfl⟩
  have hv1 := (Below.refl w.heap.size w).alloc (Nat.le_refl _) (.cells #[.bool n, .slice a la ca] 25)
  have hv2 := (Below.refl (w.alloc (.cells #[.bool n, .slice a la ca] 25)).heap.size (w.alloc (.cells #[.bool n, .slice a la ca] 25))).alloc (Nat.le_refl _) (.cells #[.bool false, .slice none 0 0, .slice none 0 0] 27)
  have hV := hv1.trans (hv2.mono hv1.size)
  have c0 : (w.alloc (.cells #[.bool n, .slice a la ca] 25)).cell? ⟨w.heap.size, 0, none⟩ = some (.bool n) := by simp
  have c1 : (w.alloc (.cells #[.bool n, .slice a la ca] 25)).cell? ⟨w.heap.size, 1, none⟩ = some (.slice a la ca) := by simp
  replace c0 := bkeep hv2 c0 rfl
  replace c1 := bkeep hv2 c1 rfl
  have hR := Cell3.new (w.alloc (.cells #[.bool n, .slice a la ca] 25)) false none none 0 0 0 0
  rw [World.size_alloc] at hR
  rw [← hVe] at hV c0 c1 hR
  replace h := h.below hV
  replace h' := h'.below hV
  have hm2 := h'.hmax
  have hc2 := h'.hcap
  have hl2 := h'.hlen
  unfold maxLen at hm2
  have HL : Hid (ys.length = lb) := hl2
  have HVe : Hid (V = (w.alloc (.cells #[.bool n, .slice a la ca] 25)).alloc (.cells #[.bool false, .slice none 0 0, .slice none 0 0] 27)) := hVe
  have hgr : w.heap.size ≤ w.heap.size + 1 := Nat.le_succ _
  clear hVe hv1 hv2 hl2
  go_enter Try.func11, Try.ntmps11
  go_wp2_with fail
  rw [← HVe.out]
  refine (refIRight_any n _ _ _ _ _ h).mono ?_
  rintro e w1 ⟨rfl, hb1⟩
  have hB1 := hV.trans (hb1.mono hV.size)
  replace h := h.below hb1
  replace h' := h'.below hb1
  replace c0 := bkeep hb1 c0 rfl
  replace c1 := bkeep hb1 c1 rfl
  replace hR := hR.below hb1
  have HR := (show Hid _ from refRight_any _ _ _ _ _ h')
  clear hV hb1 HVe
  cases hr : rightI n xs with
  | false =>
    have HF : Hid (ToldF (makeFF n xs ys) X Y false [] [] 1) := ToldF.bad (by unfold makeFF; rw [hr]; rfl)
    have hBB := put3_below hB1 hgr (.bool false) (.slice none 0 0) (.slice none 0 0)
    obtain ⟨r0, r1, r2, f0, f1, f2⟩ := hR
    clear h h'
    go_wp2_with fail
    refine Calls.mono HR.out ?_
    rintro e w2 ⟨rfl, rfl⟩
    clear HR hB1
    go_wp2_with fail
    exact bodyPost_ret (v := .tuple #[.agg #[.bool false, .slice none 0 0, .slice none 0 0], .int .i64 1]) (by simp [results, Try.results11, go_sem, r0, r1, r2]) rfl ⟨false, none, 0, 0, none, 0, 0, [], [], 1, rfl, ⟨Nums.nil _, Nums.nil _⟩, HF.out, hBB⟩
  | true =>
  cases hr' : rightB ys with
  | false =>
    rw [hr'] at HR
    have HF : Hid (ToldF (makeFF n xs ys) X Y false [] [] 1) := ToldF.bad (by unfold makeFF; rw [hr', Bool.and_false]; rfl)
    have hBB := put3_below hB1 hgr (.bool false) (.slice none 0 0) (.slice none 0 0)
    obtain ⟨r0, r1, r2, f0, f1, f2⟩ := hR
    clear h h'
    go_wp2_with fail
    refine Calls.mono HR.out ?_
    rintro e w2 ⟨rfl, rfl⟩
    clear HR hB1
    go_wp2_with fail
    exact bodyPost_ret (v := .tuple #[.agg #[.bool false, .slice none 0 0, .slice none 0 0], .int .i64 1]) (by simp [results, Try.results11, go_sem, r0, r1, r2]) rfl ⟨false, none, 0, 0, none, 0, 0, [], [], 1, rfl, ⟨Nums.nil _, Nums.nil _⟩, HF.out, hBB⟩
  | true =>
    rw [hr'] at HR
    go_wp2_with fail
    refine Calls.mono HR.out ?_
    rintro e w2 ⟨rfl, rfl⟩
    clear HR
    have hW := IsW.self h.digs hr
    have hmag := hW.mag
    have hsg : Hid (n = decide (iv n xs < 0)) := hW.sign
    have hy := IsN.self h'.digs hr'
    have hyp := nv_pos h'.digs hr'
    have hFF : Hid (makeFF n xs ys = makF (iv n xs) (nv ys)) := by show _ = _; unfold makeFF; rw [hr, hr']; rfl
    by_cases h0 : lb = 0
    · subst h0
      have HF : Hid (ToldF (makeFF n xs ys) X Y false [] [] 3) := ToldF.bad (by rw [hFF.out]; unfold makF; rw [if_pos (by have := HL.out; omega)])
      have hBB := put3_below hB1 hgr (.bool false) (.slice none 0 0) (.slice none 0 0)
      obtain ⟨r0, r1, r2, f0, f1, f2⟩ := hR
      clear h h' hW hmag hsg hy hyp hFF hB1
      go_wp2_with fail
      exact bodyPost_ret (v := .tuple #[.agg #[.bool false, .slice none 0 0, .slice none 0 0], .int .i64 3]) (by simp [results, Try.results11, go_sem, r0, r1, r2]) rfl ⟨false, none, 0, 0, none, 0, 0, [], [], 3, rfl, ⟨Nums.nil _, Nums.nil _⟩, HF.out, hBB⟩
    have h0i : ((lb : Int) == 0) = false := by simp; omega
    have hy0 : 0 < nv ys := hyp.2 (by rw [HL.out]; exact h0)
    have hgp := gF_pos (x := iv n xs) hy0
    clear hyp
    go_wp2_with fail
    refine (refGcd_all _ _ _ _ _ _ _ _ _ h h').mono ?_
    rintro e w3 ⟨ga, gl, gc, gs, ge, rfl, hG, hRes, hb3⟩
    have hg : IsN gs (gF (iv n xs) (nv ys)) := gcd_isN hmag hy hRes
    have hB3 := hB1.trans (hb3.mono hB1.size)
    replace h := h.below hb3
    replace h' := h'.below hb3
    replace c0 := bkeep hb3 c0 rfl
    replace c1 := bkeep hb3 c1 rfl
    replace hR := hR.below hb3
    clear hRes hb3 hB1
    go_wp2_with fail
    refine (refDiv_any _ _ _ _ _ _ _ _ _ h hG).mono ?_
    rintro e w4 ⟨pa, pl, pc, ps, ra, rl, rc, rs, pe, rfl, hPn, -, hD4, hb4⟩
    have hp := div_isN hmag hg hgp hD4
    have hB4 := hB3.trans (hb4.mono hB3.size)
    replace h' := h'.below hb4
    replace hG := hG.below hb4
    replace c0 := bkeep hb4 c0 rfl
    replace hR := hR.below hb4
    clear hD4 hb4 hB3 h c1
    go_wp2_with fail
    refine (refDiv_any _ _ _ _ _ _ _ _ _ h' hG).mono ?_
    rintro e w5 ⟨da, dl, dc, ds, sa, sl, sc, ss, de, rfl, hDn, -, hD5, hb5⟩
    have hd := div_isN hy hg hgp hD5
    have hB5 := hB4.trans (hb5.mono hB4.size)
    replace hPn := hPn.below hb5
    replace c0 := bkeep hb5 c0 rfl
    replace hR := hR.below hb5
    have hpl := hPn.hlen
    have hdl := hDn.hlen
    have q1 := hPn.hmax
    have q2 := hPn.hcap
    have q3 := hDn.hmax
    have q4 := hDn.hcap
    unfold maxLen at q1 q3
    have l1 := len_16 hp
    have l2 := len_16 hd
    rw [hpl] at l1
    rw [hdl] at l2
    have hmk : makeFF n xs ys = if pl ≤ 16 ∧ dl ≤ 16 then none else some 4 := by
      rw [hFF.out]
      unfold makF
      rw [if_neg (by omega), num_abs]
      by_cases c : pl ≤ 16 ∧ dl ≤ 16
      · rw [if_pos c, if_pos ⟨l1.1 c.1, l2.1 c.2⟩]
      · rw [if_neg c, if_neg (fun k => c ⟨l1.2 k.1, l2.2 k.2⟩)]
    have HMk : Hid (makeFF n xs ys = if pl ≤ 16 ∧ dl ≤ 16 then none else some 4) := hmk
    have HD : Hid (IsN ds Y) := by show IsN _ _; rw [HXY.out.2]; exact hd
    have HW : Hid (IsW (fromN n ps) (fromL ps) X) := by
      show IsW _ _ _
      rw [HXY.out.1, ← num_from hsg.out hy0]
      exact IsW.from hp n
    clear hD5 hb5 hB4 h' hG hW hmag hsg hy hFF hy0 hgp hg hp hd l1 l2 hmk hpl hdl
    by_cases p16 : 16 < pl
    · have p16i : (16 : Int) < (pl : Int) := by omega
      have HF : Hid (ToldF (makeFF n xs ys) X Y false [] [] 4) := ToldF.bad (by rw [HMk.out, if_neg (by omega)])
      have hBB := put3_below hB5 hgr (.bool false) (.slice none 0 0) (.slice none 0 0)
      obtain ⟨r0, r1, r2, f0, f1, f2⟩ := hR
      clear HMk HD HW hPn hDn hB5
      go_wp2_with fail
      exact bodyPost_ret (v := .tuple #[.agg #[.bool false, .slice none 0 0, .slice none 0 0], .int .i64 4]) (by simp [results, Try.results11, go_sem, r0, r1, r2]) rfl ⟨false, none, 0, 0, none, 0, 0, [], [], 4, rfl, ⟨Nums.nil _, Nums.nil _⟩, HF.out, hBB⟩
    have p16i : decide ((16 : Int) < (pl : Int)) = false := decide_eq_false (by omega)
    by_cases d16 : 16 < dl
    · have d16i : (16 : Int) < (dl : Int) := by omega
      have HF : Hid (ToldF (makeFF n xs ys) X Y false [] [] 4) := ToldF.bad (by rw [HMk.out, if_neg (by omega)])
      have hBB := put3_below hB5 hgr (.bool false) (.slice none 0 0) (.slice none 0 0)
      obtain ⟨r0, r1, r2, f0, f1, f2⟩ := hR
      clear HMk HD HW hPn hDn hB5
      go_wp2_with fail
      exact bodyPost_ret (v := .tuple #[.agg #[.bool false, .slice none 0 0, .slice none 0 0], .int .i64 4]) (by simp [results, Try.results11, go_sem, r0, r1, r2]) rfl ⟨false, none, 0, 0, none, 0, 0, [], [], 4, rfl, ⟨Nums.nil _, Nums.nil _⟩, HF.out, hBB⟩
    have d16i : decide ((16 : Int) < (dl : Int)) = false := decide_eq_false (by omega)
    go_wp2_with fail
    refine (refFrom_any n _ _ _ _ _ hPn).mono ?_
    rintro e w6 ⟨ea, el, ec, rfl, hFr, hb6⟩
    obtain ⟨t, ht⟩ : ∃ t, t = fromN n ps := ⟨_, rfl⟩
    rw [← ht] at HW
    rw [← ht]
    replace hDn := hDn.below hb6
    replace hR := hR.below hb6
    have hB6 := hB5.trans (hb6.mono hB5.size)
    have HF : Hid (ToldF (makeFF n xs ys) X Y t (fromL ps) ds 0) := ToldF.good (by rw [HMk.out, if_pos (by omega)]) HW.out HD.out
    have hBB := put3_below hB6 hgr (.bool t) (.slice ea el ec) (.slice da dl dc)
    have e1 := Nums.put3 hR hFr (.bool t) (.slice ea el ec) (.slice da dl dc)
    have e2 := Nums.put3 hR hDn (.bool t) (.slice ea el ec) (.slice da dl dc)
    obtain ⟨r0, r1, r2, f0, f1, f2⟩ := hR
    clear ht HMk HD HW hPn hDn hFr hB5 hb6 hB6
    go_wp2_with fail
    exact bodyPost_ret (v := .tuple #[.agg #[.bool t, .slice ea el ec, .slice da dl dc], .int .i64 0]) (by simp [results, Try.results11, go_sem, r0, r1, r2]) rfl ⟨t, ea, el, ec, da, dl, dc, _, ds, 0, rfl, ⟨e1, e2⟩, HF.out, hBB⟩
end Go.Proofs.Ytfeapegdaffckaa

/-
  The contract of the document's Inverse.
-/
import Derived.Test.YtppfkmbclpebkaaGreatInvC
import Derived.Test.YtppfkmbclpebkaaGreatRestBy
import Derived.Test.YtppfkmbclpebkaaGreatRefGcd
import Derived.Test.YtppfkmbclpebkaaGreatModR
import Derived.Deep.RegionHeld3
namespace Go.Proofs.YtppfkmbclpebkaaGreat
open Go.RowKit

/-- The state of the document's steps: two numbers, and their factors. -/
def RPre (w : World) (g10 g11 : Nat) (n a G : Int) (k : Nat) (xa : Option Addr) (xn xc : Nat) (ya : Option Addr) (yn yc : Nat) : Prop :=
  ∃ xs ys s t, (Nums w xa xn xc xs ∧ Nums w ya yn yc ys) ∧ (rightB xs = true ∧ rightB ys = true) ∧ (Fac w g10 s ∧ Fac w g11 t) ∧
    Bez n a (val 18446744073709551616 xs) (val 18446744073709551616 ys) s t ∧ gz (val 18446744073709551616 xs) (val 18446744073709551616 ys) = G ∧ (val 18446744073709551616 ys).toNat = k

theorem put2_below {B : Nat} {a w : World} (h : Below B a w) {g : Nat} (hg : B ≤ g) (x y : Value) : Below B a ((w.setCell ⟨g, 0, none⟩ x).setCell ⟨g, 1, none⟩ y) :=
  (h.setCell (p := ⟨g, 0, none⟩) hg x).setCell (p := ⟨g, 1, none⟩) hg y

/-- A whole number is stored into a variable; another variable stays. -/
theorem fac_keep {w : World} {g g' : Nat} (hne : g' ≠ g) {q : Bool} {sa : Option Addr} {sn sc : Nat} {v : Int} (c0 : w.cell? ⟨g, 0, none⟩ = some (.bool q)) (c1 : w.cell? ⟨g, 1, none⟩ = some (.slice sa sn sc)) (h : Fac w g' v) (x y : Value) : Fac ((w.setCell ⟨g, 0, none⟩ x).setCell ⟨g, 1, none⟩ y) g' v := by
  obtain ⟨p, a, n, c, L, ⟨e0, e1⟩, ⟨f0, f1⟩, hn, hr, hv⟩ := h
  exact ⟨p, a, n, c, L, ⟨(put2_other hne _ _).trans e0, (put2_other hne _ _).trans e1⟩, ⟨by simp [f0], by simp [f1]⟩, hn.put2 c0 c1 _ _, hr, hv⟩

set_option maxHeartbeats 20000000 in
theorem refInverse_of (a b : Option Addr) (la ca lb cb : Nat) (zs ns : List Int) (w : World) (h : Nums w a la ca zs) (h' : Nums w b lb cb ns) :
    Calls Tryz.prog 70 #[.slice a la ca, .slice b lb cb] w fun e w' => ∃ a' n' c' ls err, e = .returned (.tuple #[.slice a' n' c', .int .i64 err]) ∧ Nums w' a' n' c' ls ∧ ResInv zs ns ls err ∧ Below w.heap.size w w' := by
  by_cases hrr : rightB zs = false ∨ rightB ns = false
  · have HR : Hid (ResInv zs ns [] 1) := ResInv.bad (by rcases hrr with hr | hr <;> rw [hr] <;> simp)
    go_enter Tryz.func70, Tryz.ntmps70
    go_wp2_with fail
    refine (refRight_any _ _ _ _ _ h).mono ?_
    rintro e w' ⟨rfl, rfl⟩
    go_wp2_with fail
    refine (refRight_any _ _ _ _ _ h').mono ?_
    rintro e w0 ⟨rfl, rfl⟩
    cases hr : rightB zs with
    | false =>
      clear hrr
      go_wp2_with fail
      go_ret2
      exact ⟨none, 0, 0, [], 1, rfl, Nums.nil _, HR.out, Below.refl _ _⟩
    | true =>
      cases hr' : rightB ns with
      | false =>
        clear hrr
        go_wp2_with fail
        go_ret2
        exact ⟨none, 0, 0, [], 1, rfl, Nums.nil _, HR.out, Below.refl _ _⟩
      | true => simp [hr, hr'] at hrr
  · have hr : rightB zs = true := by cases e : rightB zs with | true => rfl | false => exact absurd (.inl e) hrr
    have hr' : rightB ns = true := by cases e : rightB ns with | true => rfl | false => exact absurd (.inr e) hrr
    clear hrr
    obtain ⟨cc, hcc⟩ : ∃ cc, cc = cmpN ns (ofZ 2) := ⟨_, rfl⟩
    have HC : Hid (cc = cmpN ns (ofZ 2)) := hcc
    clear hcc
    by_cases hlt : cc < 0
    · have HR : Hid (ResInv zs ns [] 1) := ResInv.bad (by
        rw [HC.out] at hlt
        have := (two_lt hr').1 hlt
        rw [hr, hr', decide_eq_false (by omega)]; rfl)
      go_enter Tryz.func70, Tryz.ntmps70
      go_wp2_with fail
      refine (refRight_any _ _ _ _ _ h).mono ?_
      rintro e w' ⟨rfl, rfl⟩
      rw [hr]
      go_wp2_with fail
      refine (refRight_any _ _ _ _ _ h').mono ?_
      rintro e w0 ⟨rfl, rfl⟩
      rw [hr']
      go_wp2_with fail
      refine (refOf_any 2 _ (by omega)).mono ?_
      rintro e w1 ⟨oa, on, oc, rfl, ho, hb1⟩
      go_wp2_with fail
      refine (refCmp_any _ _ _ _ _ _ _ _ _ (h'.below hb1) ho).mono ?_
      rintro e w2 ⟨rfl, hb2⟩
      rw [← HC.out]
      have hB2 := hb1.trans (hb2.mono hb1.size)
      clear ho hb1 hb2
      go_wp2_with fail
      go_ret2
      exact ⟨none, 0, 0, [], 1, rfl, Nums.nil _, HR.out, hB2⟩
    · have h2 : 2 ≤ val 18446744073709551616 ns := by
        have := mt (two_lt hr').2 (by rw [← HC.out]; exact hlt)
        omega
      have hdc : decide (cc < 0) = false := by simp; omega
      have hn0 : ns.length ≠ 0 := by intro e; have : ns = [] := List.eq_nil_of_length_eq_zero e; subst this; simp [val] at h2
      have hnl := h'.hlen
      obtain ⟨bb, off, rfl, -⟩ := h'.cells (by omega)
      have hlb : lb ≤ 64 := by have := right_len hr'; omega
      have H2 : Hid (2 ≤ val 18446744073709551616 ns ∧ ns.length ≠ 0) := ⟨h2, hn0⟩
      have hzd := h.digs
      have hnd := h'.digs
      obtain ⟨G, hG⟩ : ∃ G, G = gz (val 18446744073709551616 ns) (val 18446744073709551616 zs) := ⟨_, rfl⟩
      obtain ⟨N, hN⟩ : ∃ N, N = val 18446744073709551616 ns := ⟨_, rfl⟩
      obtain ⟨A, hA⟩ : ∃ A, A = val 18446744073709551616 zs := ⟨_, rfl⟩
      have HG : Hid (G = gz (val 18446744073709551616 ns) (val 18446744073709551616 zs) ∧ N = val 18446744073709551616 ns ∧ A = val 18446744073709551616 zs) := ⟨hG, hN, hA⟩
      have HN : Hid (N < 18446744073709551616 ^ 64) := by show _ < _; rw [hN]; exact val_64 hnd hr'
      clear h2 hn0 hnl hG hN hA
      go_enter Tryz.func70, Tryz.ntmps70
      go_wp2_with fail
      refine (refRight_any _ _ _ _ _ h).mono ?_
      rintro e w' ⟨rfl, rfl⟩
      rw [hr]
      go_wp2_with fail
      refine (refRight_any _ _ _ _ _ h').mono ?_
      rintro e w0 ⟨rfl, rfl⟩
      rw [hr']
      go_wp2_with fail
      refine (refOf_any 2 _ (by omega)).mono ?_
      rintro e w1 ⟨oa, on, oc, rfl, ho, hb1⟩
      go_wp2_with fail
      refine (refCmp_any _ _ _ _ _ _ _ _ _ (h'.below hb1) ho).mono ?_
      rintro e w2 ⟨rfl, hb2⟩
      rw [← HC.out]
      have hB2 := hb1.trans (hb2.mono hb1.size)
      have X0 := h.below hB2
      have X1 := h'.below hB2
      clear ho hb1 hb2
      have hown := Own.empty w2
      have hb0 := (Below.refl w2.heap.size w2).alloc (Nat.le_refl _) (.cells #[] 22)
      have X2 := X1.below hb0
      go_wp2_with (at_builtin; refine wpList_appN _ rfl _ _ 26 rfl Tryz.underlying26 w2.heap.size _ [] rfl hown (some ⟨bb, off, none⟩) lb cb ns rfl X2 ?c0 ?c1 w2 ?c2 hb0 ?c3)
      case c0 => intro e; cases e
      case c1 => simp; omega
      case c2 => simp
      case c3 =>
        intro v' w3 hown1 hb3
        obtain ⟨xa, xn, xc, rfl, hx, -⟩ := hown1.fresh hnd
        replace X0 := X0.below hb3
        replace X1 := X1.below hb3
        have hB3 := hB2.trans (hb3.mono hB2.size)
        clear hown1 hown X2 hb0 hB2 hb3
        go_wp2_with fail
        refine (refRest_any _ _ _ _ _ _ _ _ _ X0 X1).mono ?_
        rintro e w4 ⟨ya, yn, yc, ys, qs, err, rfl, hy, hD, hb4⟩
        obtain ⟨-, ⟨-, ry⟩, -, -, vy⟩ := ResDiv.parts hr hr' H2.out.2 hD
        have HY : Hid (val 18446744073709551616 ys = val 18446744073709551616 zs % val 18446744073709551616 ns) := vy
        replace X1 := X1.below hb4
        replace hx := hx.below hb4
        have hB4 := hB3.trans (hb4.mono hB3.size)
        clear hD vy hb4 hB3 X0
        have hV := (Below.refl w4.heap.size w4).alloc (Nat.le_refl _) (.cells #[.bool false, .slice none 0 0] 96)
        have F10 : Fac (w4.alloc (.cells #[.bool false, .slice none 0 0] 96)) w4.heap.size 0 := fac_alloc (Nums.nil _) (by decide) (by decide)
        replace X1 := X1.below hV
        replace hx := hx.below hV
        replace hy := hy.below hV
        have hB5 := hB4.trans (hV.mono hB4.size)
        have hsz5 : w4.heap.size < (w4.alloc (.cells #[.bool false, .slice none 0 0] 96)).heap.size := by simp
        have hsz4 : w0.heap.size ≤ w4.heap.size := hB4.size
        clear hV hB4
        go_upto_region 8 with fail
        generalize w4.alloc (.cells #[.bool false, .slice none 0 0] 96) = V at *
        generalize w4.heap.size = g10 at *
        go_wp2_with fail
        refine (refIOf_any 1 _ (by omega)).mono ?_
        rintro e w5 ⟨ia, im, ic, rfl, hI, hb5⟩
        have hV := (Below.refl w5.heap.size w5).alloc (Nat.le_refl _) (.cells #[.bool false, .slice ia im ic] 96)
        have b5 := hb5.trans (hV.mono hb5.size)
        have F11 : Fac (w5.alloc (.cells #[.bool false, .slice ia im ic] 96)) w5.heap.size 1 := fac_alloc hI (by decide) (by decide)
        replace F10 := F10.below b5
        replace X1 := X1.below b5
        replace hx := hx.below b5
        replace hy := hy.below b5
        have hB6 := hB5.trans (b5.mono hB5.size)
        have hne : g10 < w5.heap.size := by have := hb5.size; omega
        clear hV b5 hb5 hB5 hI hsz5
        have HR0 : Hid (RPre (w5.alloc (.cells #[.bool false, .slice ia im ic] 96)) g10 w5.heap.size N A G (val 18446744073709551616 ys).toNat xa xn xc ya yn yc) :=
          ⟨ns, ys, 0, 1, ⟨hx, hy⟩, ⟨hr', ry⟩, ⟨F10, F11⟩, by
            rw [← HG.out.2.1, HY.out, ← HG.out.2.1, ← HG.out.2.2]
            refine Bez.start _ _ _ ?_
            have h1 := Int.mul_ediv_add_emod A N
            have h2 : A - A % N = N * (A / N) := by omega
            rw [h2]; exact Int.mul_emod_right _ _, by rw [HY.out, HG.out.1]; exact gz_mod (val_nonneg (by decide) hzd) (val_nonneg (by decide) hnd), rfl⟩
        clear hx hy F10 F11 HY ry
        go_wp2_with fail
        generalize w5.alloc (.cells #[.bool false, .slice ia im ic] 96) = V at *
        generalize w5.heap.size = g11 at *
        generalize (val 18446744073709551616 ys).toNat = k0 at *
        go_loopg [8, 9] (k0 + 1) (fun k xv yv wr => ∃ xa xn xc ya yn yc k', xv = .slice xa xn xc ∧ yv = .slice ya yn yc ∧ RPre wr g10 g11 N A G k' xa xn xc ya yn yc ∧ k' < k ∧ Nums wr (some ⟨bb, off, none⟩) lb cb ns ∧ Below w0.heap.size w0 wr)
        case atStart => exact ⟨xa, xn, xc, ya, yn, yc, k0, rfl, rfl, HR0.out, by omega, X1, hB6⟩
        case round =>
          clear HR0 X1 hB6
          obtain ⟨xa, xn, xc, ya, yn, yc, k', rfl, rfl, ⟨xs, us, s, t, ⟨hx, hy⟩, ⟨rx, ru⟩, ⟨F10, F11⟩, hbz, hg, hk'⟩, hkk, X1, hbr⟩ := hrel
          have hyl := hy.hlen
          have hym := hy.hmax
          have hyc := hy.hcap
          unfold maxLen at hym
          have nx := val_nonneg (B := 18446744073709551616) (by decide) hx.digs
          have ny := val_nonneg (B := 18446744073709551616) (by decide) hy.digs
          by_cases h0 : yn = 0
          · have e : us = [] := List.eq_nil_of_length_eq_zero (by omega)
            subst e
            subst h0
            rw [val_nil, gz_zero nx] at hg
            have HE : Hid (val 18446744073709551616 xs = G ∧ (A * s - G) % N = 0) := ⟨hg, by rw [← hg]; exact hbz.first⟩
            clear hg hbz hyl hk' hkk F11 hy ny
            obtain ⟨c1', hc1'⟩ : ∃ c1', c1' = cmpN xs (ofZ 1) := ⟨_, rfl⟩
            have HC1 : Hid (c1' = cmpN xs (ofZ 1)) := hc1'
            clear hc1' nx
            go_wp2_with fail
            refine (refOf_any 1 _ (by omega)).mono ?_
            rintro e v8 ⟨oa, on, oc, rfl, ho, hb8⟩
            go_wp2_with fail
            refine (refCmp_any _ _ _ _ _ _ _ _ _ (hx.below hb8) ho).mono ?_
            rintro e v9 ⟨rfl, hb9⟩
            rw [← HC1.out]
            have b9 := hb8.trans (hb9.mono hb8.size)
            replace F10 := F10.below b9
            replace X1 := X1.below b9
            have hB9 := hbr.trans (b9.mono hbr.size)
            clear b9 hb8 hb9 hbr hx ho
            by_cases h1 : c1' = 0
            case neg =>
              have hgn : gz (val 18446744073709551616 ns) (val 18446744073709551616 zs) ≠ 1 := by
                intro e
                exact h1 (by rw [HC1.out]; exact (one_eq rx).2 (by rw [HE.out.1, HG.out.1]; exact e))
              have HR : Hid (ResInv zs ns [] 6) := ResInv.none hr hr' H2.out.1 hgn
              have hq : (c1' == 0) = false := by simp [h1]
              clear hgn
              go_wp2_with fail
              go_ret2
              exact ⟨none, 0, 0, [], 6, rfl, Nums.nil _, HR.out, hB9⟩
            have hg1 : val 18446744073709551616 xs = 1 := by rw [HC1.out] at h1; exact (one_eq rx).1 h1
            subst h1
            have HM : Hid (gz (val 18446744073709551616 ns) (val 18446744073709551616 zs) = 1 ∧ (val 18446744073709551616 zs * s - 1) % val 18446744073709551616 ns = 0) := by
              have h1 := HE.out
              have h2 := HG.out
              rw [hg1] at h1
              rw [← h1.1, h2.2.1, h2.2.2] at h1
              exact ⟨h2.1.symm.trans (HE.out.1.symm.trans hg1), h1.2⟩
            obtain ⟨p, fa, fn, fc, fs, ⟨c0, c1⟩, -, hF, rF, vF⟩ := F10
            have HVF : Hid (iv p fs = s) := vF
            have kg : g10 < v9.heap.size := World.block_lt_of_cell? _ _ c0
            have HRB : Hid (RB w0 g10 p fa fn fc fs (some ⟨bb, off, none⟩) lb cb ns v9) := ⟨hF, X1, hB9⟩
            have HFr : Hid (∀ wx, RB w0 g10 p fa fn fc fs (some ⟨bb, off, none⟩) lb cb ns wx → Calls Tryz.prog 110 #[.bool false, .slice (some ⟨bb, off, none⟩) lb cb] wx fun e w' => ∃ ya yn yc, e = .returned (.agg #[.bool false, .slice ya yn yc]) ∧ Hid (Nums w' ya yn yc ns ∧ RB w0 g10 p fa fn fc fs (some ⟨bb, off, none⟩) lb cb ns w') ∧ (∀ b o, b < wx.heap.size → w'.cell? ⟨b, o, none⟩ = wx.cell? ⟨b, o, none⟩) ∧ (∀ b o, b < wx.heap.size → w'.frozen? ⟨b, o, none⟩ = wx.frozen? ⟨b, o, none⟩) ∧ (∀ b, b < wx.heap.size → b < w'.heap.size)) := by
              intro wx hbx
              refine (refFrom_any false _ _ _ _ wx hbx.hn).mono ?_
              rintro e w' ⟨ya, yn, yc, rfl, hY, hb⟩
              rw [(from_right hr').1] at hY
              rw [(from_right hr').2]
              exact ⟨ya, yn, yc, rfl, ⟨hY, hbx.below hb⟩, bfacts hb⟩
            have HFl : Hid (∀ wx ya yn yc, Nums wx ya yn yc ns → RB w0 g10 p fa fn fc fs (some ⟨bb, off, none⟩) lb cb ns wx → Calls Tryz.prog 112 #[.agg #[.bool p, .slice fa fn fc], .agg #[.bool false, .slice ya yn yc]] wx fun e w' => ∃ q qa qn qc ra rn rc rs, e = .returned (.tuple #[.agg #[.bool q, .slice qa qn qc], .agg #[.bool false, .slice ra rn rc], .int .i64 0]) ∧ Hid (Nums w' ra rn rc rs ∧ (rightB rs = true ∧ val 18446744073709551616 rs = iv p fs % val 18446744073709551616 ns) ∧ Below w0.heap.size w0 w') ∧ (∀ b o, b < wx.heap.size → w'.cell? ⟨b, o, none⟩ = wx.cell? ⟨b, o, none⟩) ∧ (∀ b o, b < wx.heap.size → w'.frozen? ⟨b, o, none⟩ = wx.frozen? ⟨b, o, none⟩) ∧ (∀ b, b < wx.heap.size → b < w'.heap.size)) := by
              intro wx ya yn yc hy hbx
              refine (refIFloor_any p false _ _ _ _ _ _ _ _ wx hbx.hf hy).mono ?_
              rintro e w' ⟨q, qa, qn, qc, qs, r, ra, rn, rc, rs, err, rfl, ⟨-, hR⟩, hF, hb⟩
              obtain ⟨rfl, -, hw⟩ := floor_got rF (rightI_false hr') H2.out.2 hF
              have hr0 : r = false := by
                have := hw.2
                have h1 := Int.emod_nonneg (iv p fs) (show val 18446744073709551616 ns ≠ 0 by have := H2.out.1; omega)
                rw [this]; simp; omega
              subst hr0
              obtain ⟨g1, g2, -⟩ := hw.got
              exact ⟨q, qa, qn, qc, ra, rn, rc, rs, rfl, ⟨hR, ⟨rightI_B g2, g1⟩, (hbx.below hb).hb⟩, bfacts hb⟩
            clear hF X1 hB9 vF rF hg1 HE HC1 rx hlb hzd hnd hdc hlt hne hsz4
            go_upto_region 19 with fail
            go_region_with (first
              | (go_at_call 110; refine (HFr.out _ ?_).mono ?_; (focus (repeat (first | exact HRB.out | refine RB.drew ?_ | refine RB.alloc ?_ _))); rintro e w3 ⟨ya, yn, yc, rfl, hY, hc3, hf3, hs3⟩; have k3 := hs3 g10 (by first | omega | (simp; done) | (simp; omega)); have m30 := hc3 g10 0 (by first | omega | (simp; done) | (simp; omega)); have m31 := hc3 g10 1 (by first | omega | (simp; done) | (simp; omega)); have k3v := hs3 g10 (by first | omega | (simp; done) | (simp; omega)); (try have k30 := hs3 (v9.heap.size) (by first | omega | (simp; done) | (simp; omega))); (try have m300 := hc3 (v9.heap.size) 0 (by first | omega | (simp; done) | (simp; omega))); (try have f300 := hf3 (v9.heap.size) 0 (by first | omega | (simp; done) | (simp; omega))); (try have m301 := hc3 (v9.heap.size) 1 (by first | omega | (simp; done) | (simp; omega))); (try have f301 := hf3 (v9.heap.size) 1 (by first | omega | (simp; done) | (simp; omega))); (try have k31 := hs3 (v9.heap.size + 1) (by first | omega | (simp; done) | (simp; omega))); (try have m310 := hc3 (v9.heap.size + 1) 0 (by first | omega | (simp; done) | (simp; omega))); (try have f310 := hf3 (v9.heap.size + 1) 0 (by first | omega | (simp; done) | (simp; omega))); (try have m311 := hc3 (v9.heap.size + 1) 1 (by first | omega | (simp; done) | (simp; omega))); (try have f311 := hf3 (v9.heap.size + 1) 1 (by first | omega | (simp; done) | (simp; omega))); clear hc3 hf3 hs3)
              | (go_at_call 112; refine (HFl.out _ ya yn yc ?_ ?_).mono ?_; (focus (repeat (first | exact hY.out.1 | refine Nums.draw ?_ | refine Nums.grow ?_ _))); (focus (repeat (first | exact hY.out.2 | refine RB.drew ?_ | refine RB.alloc ?_ _))); rintro e w4 ⟨q, qa, qn, qc, ra, rn, rc, rs, rfl, hR, hc4, hf4, hs4⟩; (try have k40 := hs4 (v9.heap.size) (by first | omega | (simp; done) | (simp; omega))); (try have m400 := hc4 (v9.heap.size) 0 (by first | omega | (simp; done) | (simp; omega))); (try have f400 := hf4 (v9.heap.size) 0 (by first | omega | (simp; done) | (simp; omega))); (try have m401 := hc4 (v9.heap.size) 1 (by first | omega | (simp; done) | (simp; omega))); (try have f401 := hf4 (v9.heap.size) 1 (by first | omega | (simp; done) | (simp; omega))); (try have k41 := hs4 (v9.heap.size + 1) (by first | omega | (simp; done) | (simp; omega))); (try have m410 := hc4 (v9.heap.size + 1) 0 (by first | omega | (simp; done) | (simp; omega))); (try have f410 := hf4 (v9.heap.size + 1) 0 (by first | omega | (simp; done) | (simp; omega))); (try have m411 := hc4 (v9.heap.size + 1) 1 (by first | omega | (simp; done) | (simp; omega))); (try have f411 := hf4 (v9.heap.size + 1) 1 (by first | omega | (simp; done) | (simp; omega))); (try have k42 := hs4 (w3.heap.size) (by first | omega | (simp; done) | (simp; omega))); (try have m420 := hc4 (w3.heap.size) 0 (by first | omega | (simp; done) | (simp; omega))); (try have f420 := hf4 (w3.heap.size) 0 (by first | omega | (simp; done) | (simp; omega))); (try have m421 := hc4 (w3.heap.size) 1 (by first | omega | (simp; done) | (simp; omega))); (try have f421 := hf4 (w3.heap.size) 1 (by first | omega | (simp; done) | (simp; omega))); (try have k43 := hs4 (w3.heap.size + 1) (by first | omega | (simp; done) | (simp; omega))); (try have m430 := hc4 (w3.heap.size + 1) 0 (by first | omega | (simp; done) | (simp; omega))); (try have f430 := hf4 (w3.heap.size + 1) 0 (by first | omega | (simp; done) | (simp; omega))); (try have m431 := hc4 (w3.heap.size + 1) 1 (by first | omega | (simp; done) | (simp; omega))); (try have f431 := hf4 (w3.heap.size + 1) 1 (by first | omega | (simp; done) | (simp; omega))); clear hc4 hf4 hs4))
            all_goals
              have hz4 := hR.out.2.2.size
              have hz3 := hY.out.2.hb.size
              have hz9 := HRB.out.hb.size
              clear HFr HFl
              go_wp2_with fail
              go_ret2
              refine ⟨_, _, _, rs, _, rfl, ?_, ResInv.some hr hr' H2.out.1 HM.out.1 hR.out.1.digs hR.out.2.1.1 hR.out.2.1.2 (by rw [HVF.out]; exact HM.out.2), ?_⟩
              · repeat (first | exact hR.out.1 | refine Nums.grow ?_ _ | refine Nums.putN ?_ ?_ _)
                all_goals (intro z; go_simp)
              · repeat (first | exact hR.out.2.2 | refine Below.alloc ?_ ?_ _ | refine Below.setCell ?_ ?_ _)
                all_goals (first | omega | (simp; done) | (simp; omega))
          · have hp0 : (0 : Int) < (yn : Int) := by omega
            have hu0 : us.length ≠ 0 := by omega
            have HU : Hid (us.length ≠ 0) := hu0
            have HZ0 : Hid (Bez N A (val 18446744073709551616 xs) (val 18446744073709551616 us) s t ∧ gz (val 18446744073709551616 xs) (val 18446744073709551616 us) = G ∧ (val 18446744073709551616 us).toNat = k') := ⟨hbz, hg, hk'⟩
            clear hyl hu0 hbz hg hk'
            go_wp2_with fail
            refine (refDiv_any _ _ _ _ _ _ _ _ _ hx hy).mono ?_
            rintro e w7 ⟨qa, qn, qc, qs, ra, rn, rc, rs, err, rfl, hq, hR, hD, hb7⟩
            obtain ⟨rfl, ⟨rq, rr⟩, -, vq, vr⟩ := ResDiv.parts rx ru HU.out hD
            have hp := right_pos hy.digs ru HU.out
            have hst := HZ0.out.1.step nx hp
            rw [← vq, ← vr] at hst
            obtain ⟨hbz2, hqt, hst2⟩ := hst
            have HZ : Hid (Bez N A (val 18446744073709551616 us) (val 18446744073709551616 rs) t (s - val 18446744073709551616 qs * t) ∧ sz (val 18446744073709551616 qs * t) ≤ N ∧ sz (s - val 18446744073709551616 qs * t) ≤ N ∧ gz (val 18446744073709551616 us) (val 18446744073709551616 rs) = G ∧ (val 18446744073709551616 rs).toNat < k') := by
              refine ⟨hbz2, hqt, hst2, ?_, ?_⟩
              · rw [vr, gz_step nx ny, HZ0.out.2.1]
              · have hlt := Int.emod_lt_of_pos (val 18446744073709551616 xs) hp
                have hnn := Int.emod_nonneg (val 18446744073709551616 xs) (show val 18446744073709551616 us ≠ 0 by omega)
                rw [vr, ← HZ0.out.2.2]; omega
            replace hy := hy.below hb7
            replace F10 := F10.below hb7
            replace F11 := F11.below hb7
            replace X1 := X1.below hb7
            have hB7 := hbr.trans (hb7.mono hbr.size)
            clear hx hD vq vr hst2 hbz2 hb7 hbr HZ0 nx ny hp
            obtain ⟨tp, fa7, fn7, fc7, tl, ⟨c70, c71⟩, ⟨f70, f71⟩, hT, rT, vT⟩ := F11
            have HT : Hid (Nums w7 fa7 fn7 fc7 tl ∧ rightI tp tl = true ∧ iv tp tl = t) := ⟨hT, rT, vT⟩
            have HE : Hid ((Nums w7 ya yn yc us ∧ Nums w7 ra rn rc rs) ∧ Fac w7 g10 s ∧ Nums w7 (some ⟨bb, off, none⟩) lb cb ns ∧ Below w0.heap.size w0 w7) := ⟨⟨hy, hR⟩, F10, X1, hB7⟩
            have kr : g11 < w7.heap.size := World.block_lt_of_cell? _ _ c70
            have HFr : Hid (∀ wx, Below w7.heap.size w7 wx → Calls Tryz.prog 110 #[.bool false, .slice qa qn qc] wx fun e w' => ∃ ya yn yc, e = .returned (.agg #[.bool false, .slice ya yn yc]) ∧ Hid (Nums w' ya yn yc qs ∧ Below w7.heap.size w7 w') ∧ (w'.cell? ⟨g11, 0, none⟩ = some (.bool tp) ∧ w'.cell? ⟨g11, 1, none⟩ = some (.slice fa7 fn7 fc7)) ∧ g11 < w'.heap.size ∧
                (∀ b o, b < wx.heap.size → w'.cell? ⟨b, o, none⟩ = wx.cell? ⟨b, o, none⟩) ∧ (∀ b o, b < wx.heap.size → w'.frozen? ⟨b, o, none⟩ = wx.frozen? ⟨b, o, none⟩) ∧ (∀ b, b < wx.heap.size → b < w'.heap.size)) := by
              intro wx hbx
              refine (refFrom_any false _ _ _ _ wx (hq.below hbx)).mono ?_
              rintro e w' ⟨ya, yn, yc, rfl, hY, hb⟩
              rw [(fromD rq).1] at hY
              rw [(fromD rq).2]
              have hb' := hbx.trans (hb.mono hbx.size)
              have q0 := bkeep hb' c70 rfl
              exact ⟨ya, yn, yc, rfl, ⟨hY, hb'⟩, ⟨q0, bkeep hb' c71 rfl⟩, World.block_lt_of_cell? _ _ q0, bfactsD hb⟩
            have HMu : Hid (∀ wx ya yn yc, Nums wx ya yn yc qs → Below w7.heap.size w7 wx → Calls Tryz.prog 109 #[.agg #[.bool false, .slice ya yn yc], .agg #[.bool tp, .slice fa7 fn7 fc7]] wx fun e w' => ∃ mp ma mn mc, e = .returned (.tuple #[.agg #[.bool mp, .slice ma mn mc], .int .i64 0]) ∧ Hid (∃ ms, Nums w' ma mn mc ms ∧ rightI mp ms = true ∧ iv mp ms = val 18446744073709551616 qs * t ∧ Below w7.heap.size w7 w') ∧
                (∀ b o, b < wx.heap.size → w'.cell? ⟨b, o, none⟩ = wx.cell? ⟨b, o, none⟩) ∧ (∀ b o, b < wx.heap.size → w'.frozen? ⟨b, o, none⟩ = wx.frozen? ⟨b, o, none⟩) ∧ (∀ b, b < wx.heap.size → b < w'.heap.size)) := by
              intro wx ya yn yc hY hbx
              refine (refIMul_any false tp _ _ _ _ _ _ _ _ wx hY (hT.below hbx)).mono ?_
              rintro e w' ⟨mp, ma, mn, mc, ms, err, rfl, hM, hres, hb⟩
              have hw := Res2I.got (rightD rq) rT hres
              rw [vT] at hw
              obtain ⟨rfl, g1, g2⟩ := ResW.fits (v := val 18446744073709551616 qs * t) hw hqt HN.out
              exact ⟨mp, ma, mn, mc, rfl, ⟨ms, hM, g2, g1, hbx.trans (hb.mono hbx.size)⟩, bfactsD hb⟩
            clear hy hq hR F10 X1 hB7 hT hqt
            go_upto_region 13 with fail
            go_cut [15] from 46 to 72 (fun pv wx => ∃ g15, pv = .pointer (some ⟨g15, 0, none⟩) ∧ Fac wx g15 (val 18446744073709551616 qs * t) ∧ Below w7.heap.size w7 wx)
            case first =>
              clear HE HT HZ
              go_region_with (first
                | (go_at_call 110; refine (HFr.out _ ?_).mono ?_; (focus (repeat (first | exact Below.refl _ _ | refine bdrawD ?_ | refine bgrowD ?_ _))); rintro e w3' ⟨ya', yn', yc', rfl, hY, ⟨q0, q1⟩, kq, hc3, hf3, hs3⟩; (try have m30 := hc3 w7.heap.size 0 (by first | omega | (simp; done) | (simp; omega))); (try have m31 := hc3 w7.heap.size 1 (by first | omega | (simp; done) | (simp; omega))); (try have n30 := hf3 w7.heap.size 0 (by first | omega | (simp; done) | (simp; omega))); (try have n31 := hf3 w7.heap.size 1 (by first | omega | (simp; done) | (simp; omega))); (try have k3 := hs3 w7.heap.size (by first | omega | (simp; done) | (simp; omega))); clear hc3 hf3 hs3)
                | (go_at_call 109; refine (HMu.out _ ya' yn' yc' ?_ ?_).mono ?_; (focus (repeat (first | exact hY.out.1 | refine Nums.drawD ?_ | refine Nums.growD ?_ _))); (focus (repeat (first | exact hY.out.2 | refine bdrawD ?_ | refine bgrowD ?_ _))); rintro e w4' ⟨mp, ma, mn, mc, rfl, hM, hc4, hf4, hs4⟩; (try have m40 := hc4 w7.heap.size 0 (by first | omega | (simp; done) | (simp; omega))); (try have m41 := hc4 w7.heap.size 1 (by first | omega | (simp; done) | (simp; omega))); (try have n40 := hf4 w7.heap.size 0 (by first | omega | (simp; done) | (simp; omega))); (try have n41 := hf4 w7.heap.size 1 (by first | omega | (simp; done) | (simp; omega))); (try have k4 := hs4 w7.heap.size (by first | omega | (simp; done) | (simp; omega))); (try have m42 := hc4 w3'.heap.size 0 (by first | omega | (simp; done) | (simp; omega))); (try have m43 := hc4 w3'.heap.size 1 (by first | omega | (simp; done) | (simp; omega))); (try have n42 := hf4 w3'.heap.size 0 (by first | omega | (simp; done) | (simp; omega))); (try have n43 := hf4 w3'.heap.size 1 (by first | omega | (simp; done) | (simp; omega))); clear hc4 hf4 hs4))
              all_goals
                clear HFr HMu
                go_wp2_with fail
                go_meet
                case rel =>
                  obtain ⟨ml, hMs, rMs, vMs, hbM⟩ := hM.out
                  have hz3 := hY.out.2.size
                  first
                    | exact ⟨_, rfl, fac_alloc hMs rMs vMs, bgrowD hbM _⟩
                    | (refine ⟨_, rfl, fac_put (q := false) (sa := none) (sn := 0) (sc := 0) ?_ ?_ ?_ ?_ hMs rMs vMs, (hbM.setCell ?_ _).setCell ?_ _⟩
                       · go_simp
                       · go_simp
                       · go_simp
                       · go_simp
                       · first | (simp; done) | (simp; omega)
                       · first | (simp; done) | (simp; omega))
            case rest =>
              obtain ⟨g15, rfl, F15, hb8⟩ := hcut
              clear HFr HMu
              obtain ⟨⟨hy, hR⟩, F10, X1, hB7⟩ := HE.out
              obtain ⟨hT, rT, vT⟩ := HT.out
              replace F10 := F10.below hb8
              replace hy := hy.below hb8
              replace hR := hR.below hb8
              replace hT := hT.below hb8
              replace X1 := X1.below hb8
              replace c70 := bkeep hb8 c70 rfl
              replace c71 := bkeep hb8 c71 rfl
              replace f70 := (hb8.frozen (p := ⟨g11, 0, none⟩) kr).trans f70
              replace f71 := (hb8.frozen (p := ⟨g11, 1, none⟩) kr).trans f71
              have hB8 := hB7.trans (hb8.mono hB7.size)
              clear HE HT hB7 hb8 kr
              obtain ⟨sp, sa, sn, sc, sl, ⟨c60, c61⟩, ⟨f60, f61⟩, hS, rS, vS⟩ := F10
              obtain ⟨mp, ma, mn, mc, ml, ⟨c110, c111⟩, -, hM, rM, vM⟩ := F15
              have HV : Hid (iv sp sl = s ∧ iv mp ml = val 18446744073709551616 qs * t ∧ iv tp tl = t) := ⟨vS, vM, vT⟩
              have HKeep := (show Hid _ from And.intro hy (And.intro hR (And.intro hT X1)))
              clear vS vM vT hy hR hT X1
              go_wp2_with fail
              refine (refISub_any sp mp _ _ _ _ _ _ _ _ _ hS hM).mono ?_
              rintro e w9 ⟨q, na, nn, nc, nl, err, rfl, hN9, hres, hb9⟩
              have hw := Res2I.got rS rM hres
              rw [HV.out.1, HV.out.2.1] at hw
              obtain ⟨rfl, v13, r13⟩ := ResW.fits (v := s - val 18446744073709551616 qs * t) hw HZ.out.2.2.1 HN.out
              have HV13 : Hid (iv q nl = s - val 18446744073709551616 qs * t) := v13
              obtain ⟨hy, hR, hT, X1⟩ := HKeep.out
              have hV := (Below.refl w9.heap.size w9).alloc (Nat.le_refl _) (.cells #[.bool q, .slice na nn nc] 96)
              have b9 := hb9.trans (hV.mono hb9.size)
              replace hy := hy.below b9
              replace hR := hR.below b9
              replace hT := hT.below b9
              replace X1 := X1.below b9
              have F10 : Fac (w9.alloc (.cells #[.bool q, .slice na nn nc] 96)) g10 s := Fac.below ⟨sp, sa, sn, sc, sl, ⟨c60, c61⟩, ⟨f60, f61⟩, hS, rS, HV.out.1⟩ b9
              have h17 : g11 < w9.heap.size := Nat.lt_of_lt_of_le (World.block_lt_of_cell? _ _ c70) hb9.size
              replace f60 := (b9.frozen (p := ⟨g10, 0, none⟩) (World.block_lt_of_cell? _ _ c60)).trans f60
              replace f61 := (b9.frozen (p := ⟨g10, 1, none⟩) (World.block_lt_of_cell? _ _ c61)).trans f61
              replace f70 := (b9.frozen (p := ⟨g11, 0, none⟩) (World.block_lt_of_cell? _ _ c70)).trans f70
              replace f71 := (b9.frozen (p := ⟨g11, 1, none⟩) (World.block_lt_of_cell? _ _ c71)).trans f71
              replace c60 := bkeep b9 c60 rfl
              replace c61 := bkeep b9 c61 rfl
              replace c70 := bkeep b9 c70 rfl
              replace c71 := bkeep b9 c71 rfl
              have N17 := hN9.below hV
              have c170 : (w9.alloc (.cells #[.bool q, .slice na nn nc] 96)).cell? ⟨w9.heap.size, 0, none⟩ = some (.bool q) := by simp
              have c171 : (w9.alloc (.cells #[.bool q, .slice na nn nc] 96)).cell? ⟨w9.heap.size, 1, none⟩ = some (.slice na nn nc) := by simp
              have hB9 := hB8.trans (b9.mono hB8.size)
              clear HKeep hres hw v13 hV b9 hb9 hN9 hS hM hB8 c110 c111
              go_upto_region 15 with fail
              generalize w9.alloc (.cells #[.bool q, .slice na nn nc] 96) = U at *
              generalize w9.heap.size = g17 at *
              obtain ⟨⟨D6, D7⟩, Dn, -, -⟩ := dswap (g6 := g10) (g7 := g11) (by omega) F10 c70 c71 f70 f71 hT rT HV.out.2.2 N17 r13 HV13.out
              have DB := bput4 hB9 (g := g10) (g' := g11) (by omega) (by omega) (.bool tp) (.slice fa7 fn7 fc7) (.bool q) (.slice na nn nc)
              have HPre : Hid (RPre ((((U.setCell ⟨g10, 0, none⟩ (.bool tp)).setCell ⟨g10, 1, none⟩ (.slice fa7 fn7 fc7)).setCell ⟨g11, 0, none⟩ (.bool q)).setCell ⟨g11, 1, none⟩ (.slice na nn nc)) g10 g11 N A G (val 18446744073709551616 rs).toNat ya yn yc ra rn rc ∧ Nums ((((U.setCell ⟨g10, 0, none⟩ (.bool tp)).setCell ⟨g10, 1, none⟩ (.slice fa7 fn7 fc7)).setCell ⟨g11, 0, none⟩ (.bool q)).setCell ⟨g11, 1, none⟩ (.slice na nn nc)) (some ⟨bb, off, none⟩) lb cb ns ∧ Below w0.heap.size w0 ((((U.setCell ⟨g10, 0, none⟩ (.bool tp)).setCell ⟨g10, 1, none⟩ (.slice fa7 fn7 fc7)).setCell ⟨g11, 0, none⟩ (.bool q)).setCell ⟨g11, 1, none⟩ (.slice na nn nc))) :=
                ⟨⟨us, rs, t, s - val 18446744073709551616 qs * t, ⟨Dn _ _ _ _ hy, Dn _ _ _ _ hR⟩, ⟨ru, rr⟩, ⟨D6, D7⟩, HZ.out.1, HZ.out.2.2.2.1, rfl⟩, Dn _ _ _ _ X1, DB⟩
              have hlt' := HZ.out.2.2.2.2
              clear D6 D7 Dn DB hy hR hT X1 F10 N17 hB9 HZ HV HV13
              have n1 : g17 ≠ g10 := by omega
              have n2 : g17 ≠ g11 := by omega
              have n3 : g10 ≠ g17 := by omega
              have n4 : g11 ≠ g17 := by omega
              have n5 : g10 ≠ g11 := by omega
              have n6 : g11 ≠ g10 := by omega
              go_wp2_with fail
              go_roundg ((val 18446744073709551616 rs).toNat + 1)
              case measure => omega
              case rel => exact ⟨ya, yn, yc, ra, rn, rc, _, rfl, rfl, HPre.out.1, by omega, HPre.out.2.1, HPre.out.2.2⟩
end Go.Proofs.YtppfkmbclpebkaaGreat

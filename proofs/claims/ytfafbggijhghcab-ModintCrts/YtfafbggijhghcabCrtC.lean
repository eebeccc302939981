/-
  Contracts of modint's isRest and Crt.
-/
import Derived.Test.YtfafbggijhghcabInvC
import Derived.Test.YtfafbggijhghcabNatC
import Derived.Deep.DeepCutAuto
namespace Go.Proofs.Ytfafbggijhghcab
open Go.RowKit

/-- Is it a modulus of which Crt may be asked, and a rest by it? -/
def isRestB (zs ns : List Int) : Bool := rightB zs && (rightB ns && (decide (ns.length ≤ 8) && (decide (2 ≤ val 18446744073709551616 ns) && decide (val 18446744073709551616 zs < val 18446744073709551616 ns))))

theorem isRest_got {zs ns : List Int} (h : isRestB zs ns = true) : rightB zs = true ∧ rightB ns = true ∧ ns.length ≤ 8 ∧ 2 ≤ val 18446744073709551616 ns ∧ val 18446744073709551616 zs < val 18446744073709551616 ns := by
  simpa [isRestB] using h

set_option maxHeartbeats 1000000 in
theorem isRest_any (a b : Option Addr) (la ca lb cb : Nat) (zs ns : List Int) (w : World) (h : Nums w a la ca zs) (h' : Nums w b lb cb ns) :
    Calls Try.prog 25 #[.slice a la ca, .slice b lb cb] w fun e w' => e = .returned (.bool (isRestB zs ns)) ∧ Below w.heap.size w w' := by
  have hl := h'.hlen
  have hm := h'.hmax
  have hcp := h'.hcap
  unfold maxLen at hm
  cases hr : rightB zs with
  | false =>
    have e1 : isRestB zs ns = false := by simp [isRestB, hr]
    rw [e1]
    go_enter Try.func25, Try.ntmps25
    go_wp2_with fail
    refine (right_any _ _ _ _ _ h).mono ?_
    rintro e w' ⟨rfl, rfl⟩
    rw [hr]
    go_wp2_with fail
    go_ret
    exact ⟨rfl, Below.refl _ _⟩
  | true =>
  cases hr' : rightB ns with
  | false =>
    have e1 : isRestB zs ns = false := by simp [isRestB, hr']
    rw [e1]
    go_enter Try.func25, Try.ntmps25
    go_wp2_with fail
    refine (right_any _ _ _ _ _ h).mono ?_
    rintro e w' ⟨rfl, rfl⟩
    rw [hr]
    go_wp2_with fail
    refine (right_any _ _ _ _ _ h').mono ?_
    rintro e w' ⟨rfl, rfl⟩
    rw [hr']
    go_wp2_with fail
    go_ret
    exact ⟨rfl, Below.refl _ _⟩
  | true =>
  by_cases h8 : lb ≤ 8
  case neg =>
    have e1 : isRestB zs ns = false := by simp [isRestB, hl, h8]
    rw [e1]
    have hd : decide ((lb : Int) ≤ 8) = false := by simp; omega
    clear hl
    go_enter Try.func25, Try.ntmps25
    go_wp2_with fail
    refine (right_any _ _ _ _ _ h).mono ?_
    rintro e w' ⟨rfl, rfl⟩
    rw [hr]
    go_wp2_with fail
    refine (right_any _ _ _ _ _ h').mono ?_
    rintro e w' ⟨rfl, rfl⟩
    rw [hr']
    go_wp2_with fail
    go_ret
    exact ⟨rfl, Below.refl _ _⟩
  have h8i : (lb : Int) ≤ 8 := by omega
  obtain ⟨cc, hcc⟩ : ∃ cc, cc = cmpN ns (ofZ 2) := ⟨_, rfl⟩
  have HC : Hid (cc = cmpN ns (ofZ 2)) := hcc
  obtain ⟨dd, hdd⟩ : ∃ dd, dd = cmpN zs ns := ⟨_, rfl⟩
  have HD : Hid (dd = cmpN zs ns) := hdd
  clear hcc hdd
  by_cases hlt : cc < 0
  · have e1 : isRestB zs ns = false := by
      rw [HC.out] at hlt
      have := (two_lt hr').1 hlt
      simp [isRestB, show ¬ 2 ≤ val 18446744073709551616 ns by omega]
    rw [e1]
    have hd : decide (0 ≤ cc) = false := by simp; omega
    clear hl e1
    go_enter Try.func25, Try.ntmps25
    go_wp2_with fail
    refine (right_any _ _ _ _ _ h).mono ?_
    rintro e w' ⟨rfl, rfl⟩
    rw [hr]
    go_wp2_with fail
    refine (right_any _ _ _ _ _ h').mono ?_
    rintro e w0 ⟨rfl, rfl⟩
    rw [hr']
    go_wp2_with fail
    refine (of_any 2 _ (by omega)).mono ?_
    rintro e w1 ⟨oa, on, oc, rfl, ho, hb1⟩
    go_wp2_with fail
    refine (cmp_any _ _ _ _ _ _ _ _ _ (h'.below hb1) ho).mono ?_
    rintro e w2 ⟨rfl, hb2⟩
    rw [← HC.out]
    have hB2 := hb1.trans (hb2.mono hb1.size)
    clear ho hb1 hb2
    go_wp2_with fail
    go_ret
    exact ⟨rfl, hB2⟩
  · have h2 : 2 ≤ val 18446744073709551616 ns := by
      have := mt (two_lt hr').2 (by rw [← HC.out]; exact hlt)
      omega
    have hd : 0 ≤ cc := by omega
    have e1 : isRestB zs ns = decide (dd < 0) := by
      have hiff := cmpN_lt hr hr'
      rw [HD.out]
      simp only [isRestB, hr, hr', hl, h8, h2, decide_true, Bool.true_and]
      exact decide_eq_decide.2 hiff.symm
    rw [e1]
    clear hl e1 h2
    go_enter Try.func25, Try.ntmps25
    go_wp2_with fail
    refine (right_any _ _ _ _ _ h).mono ?_
    rintro e w' ⟨rfl, rfl⟩
    rw [hr]
    go_wp2_with fail
    refine (right_any _ _ _ _ _ h').mono ?_
    rintro e w0 ⟨rfl, rfl⟩
    rw [hr']
    go_wp2_with fail
    refine (of_any 2 _ (by omega)).mono ?_
    rintro e w1 ⟨oa, on, oc, rfl, ho, hb1⟩
    go_wp2_with fail
    refine (cmp_any _ _ _ _ _ _ _ _ _ (h'.below hb1) ho).mono ?_
    rintro e w2 ⟨rfl, hb2⟩
    rw [← HC.out]
    have hB2 := hb1.trans (hb2.mono hb1.size)
    clear ho hb1 hb2
    go_wp2_with fail
    refine (cmp_any _ _ _ _ _ _ _ _ _ (h.below hB2) (h'.below hB2)).mono ?_
    rintro e w3 ⟨rfl, hb3⟩
    rw [← HD.out]
    have hB3 := hB2.trans (hb3.mono hB2.size)
    clear hB2 hb3
    go_wp2_with fail
    go_ret
    exact ⟨by simp, hB3⟩

/-- What is told of two rests by two moduli. -/
def ResCrt (zs ms ys ns : List Int) (ls : List Int) (err : Int) : Prop :=
  if isRestB zs ms && isRestB ys ns then
    ∃ ks e, ResInv ms ns ks e ∧ (e = 0 → err = 0 ∧ Digs 18446744073709551616 ls ∧ rightB ls = true ∧ val 18446744073709551616 ls = val 18446744073709551616 zs + (val 18446744073709551616 ys - val 18446744073709551616 zs) * val 18446744073709551616 ks % val 18446744073709551616 ns * val 18446744073709551616 ms) ∧ (e ≠ 0 → err = e ∧ ls = [])
  else err = 1 ∧ ls = []

theorem ResCrt.unique {zs ms ys ns ls ls' : List Int} {e e' : Int} (h : ResCrt zs ms ys ns ls e) (h' : ResCrt zs ms ys ns ls' e') : ls = ls' ∧ e = e' := by
  unfold ResCrt at h h'
  split at h
  · rename_i hc
    rw [if_pos hc] at h'
    obtain ⟨ks, f, hi, h0, h1⟩ := h
    obtain ⟨ks', f', hi', h0', h1'⟩ := h'
    obtain ⟨rfl, rfl⟩ := hi.unique hi'
    by_cases hf : f = 0
    · obtain ⟨rfl, d, r, v⟩ := h0 hf
      obtain ⟨rfl, d', r', v'⟩ := h0' hf
      exact ⟨val_inj (by decide) d d' (right_top r) (right_top r') (v.trans v'.symm), rfl⟩
    · obtain ⟨rfl, rfl⟩ := h1 hf
      obtain ⟨rfl, rfl⟩ := h1' hf
      exact ⟨rfl, rfl⟩
  · rename_i hc
    rw [if_neg hc] at h'
    obtain ⟨rfl, rfl⟩ := h
    obtain ⟨rfl, rfl⟩ := h'
    exact ⟨rfl, rfl⟩

/-- The sizes on the way. -/
theorem crt_sizes {a b m n i : Int} (ha : 0 ≤ a ∧ a < m) (hb : 0 ≤ b ∧ b < n) (hm : m < 18446744073709551616 ^ 8) (hn : n < 18446744073709551616 ^ 8) (hi : 0 ≤ i ∧ i < n) :
    sz (b - a) ≤ 18446744073709551616 ^ 8 ∧ sz ((b - a) * i) ≤ 18446744073709551616 ^ 16 ∧ (0 ≤ (b - a) * i % n * m ∧ (b - a) * i % n * m < 18446744073709551616 ^ 16) ∧ (0 ≤ a + (b - a) * i % n * m ∧ a + (b - a) * i % n * m < m * n ∧ m * n ≤ 18446744073709551616 ^ 16) := by
  have hk0 := Int.emod_nonneg ((b - a) * i) (show n ≠ 0 by omega)
  have hk1 := Int.emod_lt_of_pos ((b - a) * i) (show 0 < n by omega)
  have e16 : (18446744073709551616 : Int) ^ 16 = 18446744073709551616 ^ 8 * 18446744073709551616 ^ 8 := by decide
  have s1 : sz (b - a) ≤ 18446744073709551616 ^ 8 := by unfold sz; split <;> omega
  have hmn : m * n ≤ 18446744073709551616 ^ 16 := by rw [e16]; exact Int.mul_le_mul (by omega) (by omega) (by omega) (by decide)
  have hs : sz ((b - a) * i) = sz (b - a) * i := by
    unfold sz
    by_cases h0 : b - a < 0
    · rw [if_pos h0]
      have := Int.mul_nonneg (show 0 ≤ -(b - a) by omega) hi.1
      rw [Int.neg_mul] at this
      rw [Int.neg_mul]
      split <;> omega
    · rw [if_neg h0]
      have := Int.mul_nonneg (show 0 ≤ b - a by omega) hi.1
      split <;> omega
  generalize (b - a) * i % n = k at *
  have hkm : k * m ≤ (n - 1) * m := Int.mul_le_mul_of_nonneg_right (by omega) (by omega)
  have hkm0 := Int.mul_nonneg hk0 (show 0 ≤ m by omega)
  have e1 : (n - 1) * m = m * n - m := by rw [Int.sub_mul, Int.one_mul, Int.mul_comm]
  refine ⟨s1, ?_, ⟨hkm0, by omega⟩, by omega, by omega, hmn⟩
  rw [hs, e16]
  exact Int.mul_le_mul s1 (by omega) hi.1 (by decide)

theorem ResCrt.bad {zs ms ys ns : List Int} (h : (isRestB zs ms && isRestB ys ns) = false) : ResCrt zs ms ys ns [] 1 := by
  unfold ResCrt; rw [h]; exact ⟨rfl, rfl⟩

set_option maxHeartbeats 8000000 in
theorem crt_any (a m b n : Option Addr) (la ca lm cm lb cb ln cn : Nat) (zs ms ys ns : List Int) (w : World) (h0 : Nums w a la ca zs) (h1 : Nums w m lm cm ms) (h2 : Nums w b lb cb ys) (h3 : Nums w n ln cn ns) :
    Calls Try.prog 8 #[.slice a la ca, .slice m lm cm, .slice b lb cb, .slice n ln cn] w fun e w' => ∃ a' n' c' ls err, e = .returned (.tuple #[.slice a' n' c', .int .i64 err]) ∧ Nums w' a' n' c' ls ∧ ResCrt zs ms ys ns ls err ∧ Below w.heap.size w w' := by
  cases hr : isRestB zs ms with
  | false =>
    have HR : Hid (ResCrt zs ms ys ns [] 1) := ResCrt.bad (by rw [hr]; rfl)
    go_enter Try.func8, Try.ntmps8
    go_wp2_with fail
    refine (isRest_any _ _ _ _ _ _ _ _ _ h0 h1).mono ?_
    rintro e w1 ⟨rfl, hb1⟩
    rw [hr]
    go_wp2_with fail
    go_ret2
    exact ⟨none, 0, 0, [], 1, rfl, Nums.nil _, HR.out, hb1⟩
  | true =>
  cases hr' : isRestB ys ns with
  | false =>
    have HR : Hid (ResCrt zs ms ys ns [] 1) := ResCrt.bad (by rw [hr, hr']; rfl)
    go_enter Try.func8, Try.ntmps8
    go_wp2_with fail
    refine (isRest_any _ _ _ _ _ _ _ _ _ h0 h1).mono ?_
    rintro e w1 ⟨rfl, hb1⟩
    rw [hr]
    go_wp2_with fail
    refine (isRest_any _ _ _ _ _ _ _ _ _ (h2.below hb1) (h3.below hb1)).mono ?_
    rintro e w2 ⟨rfl, hb2⟩
    rw [hr']
    have hB2 := hb1.trans (hb2.mono hb1.size)
    clear hb1 hb2
    go_wp2_with fail
    go_ret2
    exact ⟨none, 0, 0, [], 1, rfl, Nums.nil _, HR.out, hB2⟩
  | true =>
    obtain ⟨rz, rm, lm8, m2, zm⟩ := isRest_got hr
    obtain ⟨ry, rn, ln8, n2, yn⟩ := isRest_got hr'
    have hzd := h0.digs
    have hmd := h1.digs
    have hyd := h2.digs
    have hnd := h3.digs
    have hm8 := val_lt_pow (B := 18446744073709551616) (by decide) hmd lm8
    have hn8 := val_lt_pow (B := 18446744073709551616) (by decide) hnd ln8
    have hn0 : ns.length ≠ 0 := by intro e; have : ns = [] := List.eq_nil_of_length_eq_zero e; subst this; simp [val] at n2
    have HP : Hid ((2 ≤ val 18446744073709551616 ms ∧ 2 ≤ val 18446744073709551616 ns ∧ ns.length ≠ 0) ∧ (val 18446744073709551616 zs < val 18446744073709551616 ms ∧ val 18446744073709551616 ys < val 18446744073709551616 ns) ∧ val 18446744073709551616 ms < 18446744073709551616 ^ 8 ∧ val 18446744073709551616 ns < 18446744073709551616 ^ 8) := ⟨⟨m2, n2, hn0⟩, ⟨zm, yn⟩, hm8, hn8⟩
    clear lm8 ln8 m2 n2 zm yn hm8 hn8 hn0
    go_enter Try.func8, Try.ntmps8
    go_wp2_with fail
    refine (isRest_any _ _ _ _ _ _ _ _ _ h0 h1).mono ?_
    rintro e w1 ⟨rfl, hb1⟩
    rw [hr]
    go_wp2_with fail
    refine (isRest_any _ _ _ _ _ _ _ _ _ (h2.below hb1) (h3.below hb1)).mono ?_
    rintro e w2 ⟨rfl, hb2⟩
    rw [hr']
    have hB2 := hb1.trans (hb2.mono hb1.size)
    replace h0 := h0.below hB2
    replace h1 := h1.below hB2
    replace h2 := h2.below hB2
    replace h3 := h3.below hB2
    clear hb1 hb2
    go_wp2_with fail
    refine (inverse_of _ _ _ _ _ _ _ _ _ h1 h3).mono ?_
    rintro e w3 ⟨ka, kn, kc, ks, ke, rfl, hk, hkr, hb3⟩
    have HK : Hid (ResInv ms ns ks ke) := hkr
    replace h0 := h0.below hb3
    replace h1 := h1.below hb3
    replace h2 := h2.below hb3
    replace h3 := h3.below hb3
    have hB3 := hB2.trans (hb3.mono hB2.size)
    clear hkr hb3 hB2
    by_cases hke : ke = 0
    case neg =>
      have hq : (ke == 0) = false := by simp [hke]
      have HR : Hid (ResCrt zs ms ys ns [] ke) := by
        show ResCrt _ _ _ _ _ _
        unfold ResCrt
        rw [hr, hr', if_pos (by rfl)]
        exact ⟨ks, ke, HK.out, fun h => absurd h hke, fun _ => ⟨rfl, rfl⟩⟩
      go_wp2_with fail
      go_ret2
      exact ⟨none, 0, 0, [], ke, rfl, Nums.nil _, HR.out, hB3⟩
    subst hke
    have hinv : rightB ks = true ∧ Digs 18446744073709551616 ks ∧ val 18446744073709551616 ks < val 18446744073709551616 ns := by
      have := HK.out
      unfold ResInv at this
      rw [rm, rn, decide_eq_true HP.out.1.2.1, if_pos (by rfl)] at this
      split at this
      · exact ⟨this.2.2.1, this.2.1, this.2.2.2.1⟩
      · exact absurd this.1 (by decide)
    obtain ⟨rk, hkd, hkn⟩ := hinv
    have hsz := crt_sizes (a := val 18446744073709551616 zs) (b := val 18446744073709551616 ys) (m := val 18446744073709551616 ms) (n := val 18446744073709551616 ns) (i := val 18446744073709551616 ks) ⟨val_nonneg (by decide) hzd, HP.out.2.1.1⟩ ⟨val_nonneg (by decide) hyd, HP.out.2.1.2⟩ HP.out.2.2.1 HP.out.2.2.2 ⟨val_nonneg (by decide) hkd, hkn⟩
    have e64 : (18446744073709551616 : Int) ^ 16 < 18446744073709551616 ^ 64 := by decide
    have e8 : (18446744073709551616 : Int) ^ 8 < 18446744073709551616 ^ 64 := by decide
    have HS := (show Hid _ from And.intro hsz (And.intro e64 e8))
    clear hsz e64 e8 hkn
    go_wp2_with fail
    refine (from_any false _ _ _ _ _ h2).mono ?_
    rintro e w4 ⟨ba, bn, bc, rfl, hb, hb4⟩
    rw [(fromD ry).1] at hb
    rw [(fromD ry).2]
    replace h0 := h0.below hb4
    replace h1 := h1.below hb4
    replace h3 := h3.below hb4
    replace hk := hk.below hb4
    have hB4 := hB3.trans (hb4.mono hB3.size)
    clear hb4 hB3 h2
    go_wp2_with fail
    refine (from_any false _ _ _ _ _ h0).mono ?_
    rintro e w5 ⟨aa, an, ac, rfl, ha, hb5⟩
    rw [(fromD rz).1] at ha
    rw [(fromD rz).2]
    replace h0 := h0.below hb5
    replace h1 := h1.below hb5
    replace h3 := h3.below hb5
    replace hk := hk.below hb5
    replace hb := hb.below hb5
    have hB5 := hB4.trans (hb5.mono hB4.size)
    clear hb5 hB4
    go_wp2_with fail
    refine (isub_any false false _ _ _ _ _ _ _ _ _ hb ha).mono ?_
    rintro e w6 ⟨tp, fa7, fn7, fc7, tl, err, rfl, hT, hres, hb6⟩
    have hw := Res2I.got (rightD ry) (rightD rz) hres
    have hw2 : ResW (val 18446744073709551616 ys - val 18446744073709551616 zs) tp tl err := hw
    obtain ⟨rfl, vT, rT⟩ := ResW.fits hw2 HS.out.1.1 HS.out.2.2
    have HVT : Hid (iv tp tl = val 18446744073709551616 ys - val 18446744073709551616 zs) := vT
    have hV := (Below.refl w6.heap.size w6).alloc (Nat.le_refl _) (.cells #[.bool tp, .slice fa7 fn7 fc7] 48)
    have b6 := hb6.trans (hV.mono hb6.size)
    replace h0 := h0.below b6
    replace h1 := h1.below b6
    replace h3 := h3.below b6
    replace hk := hk.below b6
    replace hT := hT.below hV
    have c70 : (w6.alloc (.cells #[.bool tp, .slice fa7 fn7 fc7] 48)).cell? ⟨w6.heap.size, 0, none⟩ = some (.bool tp) := by simp
    have c71 : (w6.alloc (.cells #[.bool tp, .slice fa7 fn7 fc7] 48)).cell? ⟨w6.heap.size, 1, none⟩ = some (.slice fa7 fn7 fc7) := by simp
    have kr : w6.heap.size < (w6.alloc (.cells #[.bool tp, .slice fa7 fn7 fc7] 48)).heap.size := by simp
    have hB6 := hB5.trans (b6.mono hB5.size)
    clear hb6 hB5 hb ha hres hw hw2 vT b6 hV
    go_upto_region 7 with fail
    generalize w6.alloc (.cells #[.bool tp, .slice fa7 fn7 fc7] 48) = V at *
    generalize w6.heap.size = g at *
    have HFr : Hid (∀ wx, Below V.heap.size V wx → Calls Try.prog 27 #[.bool false, .slice ka kn kc] wx fun e w' => ∃ ya yn yc, e = .returned (.agg #[.bool false, .slice ya yn yc]) ∧ Hid (Nums w' ya yn yc ks ∧ Below V.heap.size V w') ∧ (w'.cell? ⟨g, 0, none⟩ = some (.bool tp) ∧ w'.cell? ⟨g, 1, none⟩ = some (.slice fa7 fn7 fc7)) ∧ g < w'.heap.size ∧
        (∀ b o, b < wx.heap.size → w'.cell? ⟨b, o, none⟩ = wx.cell? ⟨b, o, none⟩) ∧ (∀ b o, b < wx.heap.size → w'.frozen? ⟨b, o, none⟩ = wx.frozen? ⟨b, o, none⟩) ∧ (∀ b, b < wx.heap.size → b < w'.heap.size)) := by
      intro wx hbx
      refine (from_any false _ _ _ _ wx (hk.below hbx)).mono ?_
      rintro e w' ⟨ya, yn, yc, rfl, hY, hb⟩
      rw [(fromD rk).1] at hY
      rw [(fromD rk).2]
      have hb' := hbx.trans (hb.mono hbx.size)
      have q0 := bkeep hb' c70 rfl
      exact ⟨ya, yn, yc, rfl, ⟨hY, hb'⟩, ⟨q0, bkeep hb' c71 rfl⟩, World.block_lt_of_cell? _ _ q0, bfactsD hb⟩
    have HMu : Hid (∀ wx ya yn yc, Nums wx ya yn yc ks → Below V.heap.size V wx → Calls Try.prog 28 #[.agg #[.bool tp, .slice fa7 fn7 fc7], .agg #[.bool false, .slice ya yn yc]] wx fun e w' => ∃ mp ma mn mc, e = .returned (.tuple #[.agg #[.bool mp, .slice ma mn mc], .int .i64 0]) ∧ Hid (∃ ml, Nums w' ma mn mc ml ∧ rightI mp ml = true ∧ iv mp ml = (val 18446744073709551616 ys - val 18446744073709551616 zs) * val 18446744073709551616 ks ∧ Below V.heap.size V w') ∧
        (∀ b o, b < wx.heap.size → w'.cell? ⟨b, o, none⟩ = wx.cell? ⟨b, o, none⟩) ∧ (∀ b o, b < wx.heap.size → w'.frozen? ⟨b, o, none⟩ = wx.frozen? ⟨b, o, none⟩) ∧ (∀ b, b < wx.heap.size → b < w'.heap.size)) := by
      intro wx ya yn yc hY hbx
      refine (imul_any tp false _ _ _ _ _ _ _ _ wx (hT.below hbx) hY).mono ?_
      rintro e w' ⟨mp, ma, mn, mc, ml, err, rfl, hM, hres, hb⟩
      have hw := Res2I.got rT (rightD rk) hres
      rw [HVT.out] at hw
      obtain ⟨rfl, g1, g2⟩ := ResW.fits (v := (val 18446744073709551616 ys - val 18446744073709551616 zs) * val 18446744073709551616 ks) hw HS.out.1.2.1 HS.out.2.1
      exact ⟨mp, ma, mn, mc, rfl, ⟨ml, hM, g2, g1, hbx.trans (hb.mono hbx.size)⟩, bfactsD hb⟩
    have HKeep : Hid (Nums V a la ca zs ∧ Nums V m lm cm ms ∧ Nums V n ln cn ns ∧ Below w.heap.size w V) := ⟨h0, h1, h3, hB6⟩
    clear h0 h1 h3 hB6 hk hT
    go_cut [14] (fun pv wx => ∃ g14, pv = .pointer (some ⟨g14, 0, none⟩) ∧ Fac wx g14 ((val 18446744073709551616 ys - val 18446744073709551616 zs) * val 18446744073709551616 ks) ∧ Below V.heap.size V wx)
    case first =>
      clear HKeep
      go_region_with (first
        | (go_at_call 27; refine (HFr.out _ ?_).mono ?_; (focus (repeat (first | exact Below.refl _ _ | refine bdrawD ?_ | refine bgrowD ?_ _))); rintro e w3' ⟨ya, yn, yc, rfl, hY, ⟨q0, q1⟩, kq, hc3, hf3, hs3⟩; (try have m30 := hc3 V.heap.size 0 (by first | omega | (simp; done) | (simp; omega))); (try have m31 := hc3 V.heap.size 1 (by first | omega | (simp; done) | (simp; omega))); (try have n30 := hf3 V.heap.size 0 (by first | omega | (simp; done) | (simp; omega))); (try have n31 := hf3 V.heap.size 1 (by first | omega | (simp; done) | (simp; omega))); (try have k3 := hs3 V.heap.size (by first | omega | (simp; done) | (simp; omega))); clear hc3 hf3 hs3)
        | (go_at_call 28; refine (HMu.out _ ya yn yc ?_ ?_).mono ?_; (focus (repeat (first | exact hY.out.1 | refine Nums.drawD ?_ | refine Nums.growD ?_ _))); (focus (repeat (first | exact hY.out.2 | refine bdrawD ?_ | refine bgrowD ?_ _))); rintro e w4' ⟨mp, ma, mn, mc, rfl, hM, hc4, hf4, hs4⟩; (try have m40 := hc4 V.heap.size 0 (by first | omega | (simp; done) | (simp; omega))); (try have m41 := hc4 V.heap.size 1 (by first | omega | (simp; done) | (simp; omega))); (try have n40 := hf4 V.heap.size 0 (by first | omega | (simp; done) | (simp; omega))); (try have n41 := hf4 V.heap.size 1 (by first | omega | (simp; done) | (simp; omega))); (try have k4 := hs4 V.heap.size (by first | omega | (simp; done) | (simp; omega))); (try have m42 := hc4 w3'.heap.size 0 (by first | omega | (simp; done) | (simp; omega))); (try have m43 := hc4 w3'.heap.size 1 (by first | omega | (simp; done) | (simp; omega))); (try have n42 := hf4 w3'.heap.size 0 (by first | omega | (simp; done) | (simp; omega))); (try have n43 := hf4 w3'.heap.size 1 (by first | omega | (simp; done) | (simp; omega))); clear hc4 hf4 hs4))
      all_goals
        clear HFr HMu
        go_wp2_with fail
        go_meet
        case rel =>
          obtain ⟨ml, hMs, rMs, vMs, hbM⟩ := hM.out
          have hz3 := hY.out.2.size
          first
            | exact ⟨_, rfl, fac_alloc hMs rMs vMs, bgrowD hbM _⟩
            | (refine ⟨_, rfl, fac_put (q := false) (sa := none) (sn := 0) (sc := 0) ?_ ?_ ?_ ?_ hMs rMs vMs, (hbM.setCell ?_ _).setCell ?_ _⟩
               · go_simp
               · go_simp
               · go_simp
               · go_simp
               · first | (simp; done) | (simp; omega)
               · first | (simp; done) | (simp; omega))
    case rest =>
      obtain ⟨g14, rfl, F14, hb7⟩ := hcut
      obtain ⟨h0, h1, h3, hB6⟩ := HKeep.out
      replace h0 := h0.below hb7
      replace h1 := h1.below hb7
      replace h3 := h3.below hb7
      have hB7 := hB6.trans (hb7.mono hB6.size)
      obtain ⟨sp, sa, sn, sc, sl, ⟨d0, d1⟩, -, hS, rS, vS⟩ := F14
      have HVS : Hid (iv sp sl = (val 18446744073709551616 ys - val 18446744073709551616 zs) * val 18446744073709551616 ks) := vS
      clear HKeep HFr HMu hb7 hB6 vS c70 c71
      go_wp2_with fail
      refine (restBy_any _ _ _ _ _ _ _ _ _ _ hS h3 rS rn HP.out.1.2.2).mono ?_
      rintro e w8 ⟨ra, rn', rc, rs, rfl, hR, rR, vR, hb8⟩
      rw [HVS.out] at vR
      have HVR : Hid (val 18446744073709551616 rs = (val 18446744073709551616 ys - val 18446744073709551616 zs) * val 18446744073709551616 ks % val 18446744073709551616 ns) := vR
      replace h0 := h0.below hb8
      replace h1 := h1.below hb8
      have hB8 := hB7.trans (hb8.mono hB7.size)
      clear vR hb8 hB7 hS h3
      go_wp2_with fail
      refine (mul_any _ _ _ _ _ _ _ _ _ hR h1).mono ?_
      rintro e w9 ⟨pa, pn, pc, ps, pe, rfl, hP, hPr, -, hb9⟩
      have hpv := res_fits (hPr.got rR rm) (by rw [HVR.out]; have h1 := HS.out.1.2.2.1.2; have h2 := HS.out.2.1; omega)
      have HPV := (show Hid _ from hpv)
      replace h0 := h0.below hb9
      have hB9 := hB8.trans (hb9.mono hB8.size)
      clear hPr hb9 hB8 hR h1 hpv
      go_wp2_with fail
      refine (add_any _ _ _ _ _ _ _ _ _ h0 hP).mono ?_
      rintro e w10 ⟨xa, xn, xc, xs, xe, rfl, hX, hXr, -, hb10⟩
      have hxv := res_fits (hXr.got rz HPV.out.2.2.1) (by rw [HPV.out.2.2.2, HVR.out]; have h1 := HS.out.1.2.2.2; have h2 := HS.out.2.1; omega)
      obtain ⟨rfl, xd, xr, xv⟩ := hxv
      rw [HPV.out.2.2.2, HVR.out] at xv
      have HR : Hid (ResCrt zs ms ys ns xs 0) := by
        show ResCrt _ _ _ _ _ _
        unfold ResCrt
        rw [hr, hr', if_pos (by rfl)]
        exact ⟨ks, 0, HK.out, fun _ => ⟨rfl, xd, xr, xv⟩, fun h => absurd rfl h⟩
      have hB10 := hB9.trans (hb10.mono hB9.size)
      clear hXr hb10 hB9 xv
      go_wp2_with fail
      go_ret2
      exact ⟨_, _, _, xs, _, rfl, hX, HR.out, hB10⟩
end Go.Proofs.Ytfafbggijhghcab

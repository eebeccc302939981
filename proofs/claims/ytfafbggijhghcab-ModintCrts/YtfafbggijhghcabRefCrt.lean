/-
  The contract of the document's Crt.
-/
import Derived.Test.YtfafbggijhghcabCrtC
import Derived.Test.YtfafbggijhghcabRefGcd
import Derived.Test.YtfafbggijhghcabModR
import Derived.Test.YtfafbggijhghcabRefCrtR
namespace Go.Proofs.Ytfafbggijhghcab
open Go.RowKit

/-- May it be, and has it at most eight limbs? -/
def eightB (zs : List Int) : Bool := rightB zs && decide (zs.length ≤ 8)

theorem eight_not {zs ms : List Int} (hz : Digs 18446744073709551616 zs) (hm : Digs 18446744073709551616 ms) (h : eightB zs = false ∨ eightB ms = false) : isRestB zs ms = false := by
  cases hi : isRestB zs ms with
  | false => rfl
  | true =>
    exfalso
    obtain ⟨rz, rm, lm8, m2, zm⟩ := isRest_got hi
    rcases h with h | h
    · have hl : ¬ zs.length ≤ 8 := by intro hl; simp [eightB, rz, hl] at h
      have h1 := val_ge (B := 18446744073709551616) (by decide) hz (right_top rz) (by intro e; subst e; simp at hl)
      have h2 := pow_mono (B := 18446744073709551616) (by decide) (show 8 ≤ zs.length - 1 by omega)
      have h3 := val_lt_pow (B := 18446744073709551616) (by decide) hm lm8
      omega
    · simp [eightB, rm, lm8] at h

theorem crt_bad_at {zs ms ys ns : List Int} (hz : Digs 18446744073709551616 zs) (hm : Digs 18446744073709551616 ms) (hy : Digs 18446744073709551616 ys) (hn : Digs 18446744073709551616 ns) {k : Nat} (hk : k < 4) (h : eightB ([zs, ms, ys, ns].getD k []) = false) : ResCrt zs ms ys ns [] 1 := by
  refine ResCrt.bad ?_
  match k, hk with
  | 0, _ => rw [eight_not hz hm (.inl (by simpa using h))]; rfl
  | 1, _ => rw [eight_not hz hm (.inr (by simpa using h))]; rfl
  | 2, _ => rw [eight_not hy hn (.inl (by simpa using h))]; simp
  | 3, _ => rw [eight_not hy hn (.inr (by simpa using h))]; simp

/-- What is asked of the document's Inverse (RefInv has it: refInverse_of). -/
def RefInvOk : Prop := ∀ (a b : Option Addr) (la ca lb cb : Nat) (zs ns : List Int) (w : World), Nums w a la ca zs → Nums w b lb cb ns →
    Calls Try.prog 34 #[.slice a la ca, .slice b lb cb] w fun e w' => ∃ a' n' c' ls err, e = .returned (.tuple #[.slice a' n' c', .int .i64 err]) ∧ Nums w' a' n' c' ls ∧ ResInv zs ns ls err ∧ Below w.heap.size w w'

set_option maxRecDepth 100000 in
set_option maxHeartbeats 30000000 in
theorem refCrt_of (hinv : RefInvOk) (a m b n : Option Addr) (la ca lm cm lb cb ln cn : Nat) (zs ms ys ns : List Int) (w : World) (h0 : Nums w a la ca zs) (h1 : Nums w m lm cm ms) (h2 : Nums w b lb cb ys) (h3 : Nums w n ln cn ns) :
    Calls Try.prog 9 #[.slice a la ca, .slice m lm cm, .slice b lb cb, .slice n ln cn] w fun e w' => ∃ a' n' c' ls err, e = .returned (.tuple #[.slice a' n' c', .int .i64 err]) ∧ Nums w' a' n' c' ls ∧ ResCrt zs ms ys ns ls err ∧ Below w.heap.size w w' := by
  have hzd := h0.digs
  have hmd := h1.digs
  have hyd := h2.digs
  have hnd := h3.digs
  have hV := (Below.refl w.heap.size w).alloc (Nat.le_refl _) (.cells #[.slice a la ca, .slice m lm cm, .slice b lb cb, .slice n ln cn] 23)
  replace h0 := h0.below hV
  replace h1 := h1.below hV
  replace h2 := h2.below hV
  replace h3 := h3.below hV
  have HCell : Hid (∀ k, k < 4 → ∃ xa xn xc, (w.alloc (.cells #[.slice a la ca, .slice m lm cm, .slice b lb cb, .slice n ln cn] 23)).cell? ⟨w.heap.size, k, none⟩ = some (.slice xa xn xc) ∧ Nums (w.alloc (.cells #[.slice a la ca, .slice m lm cm, .slice b lb cb, .slice n ln cn] 23)) xa xn xc ([zs, ms, ys, ns].getD k [])) := by
    intro k hk
    match k, hk with
    | 0, _ => exact ⟨a, la, ca, by simp, by simpa using h0⟩
    | 1, _ => exact ⟨m, lm, cm, by simp, by simpa using h1⟩
    | 2, _ => exact ⟨b, lb, cb, by simp, by simpa using h2⟩
    | 3, _ => exact ⟨n, ln, cn, by simp, by simpa using h3⟩
  go_enter Try.func9, Try.ntmps9
  go_wp2_with fail
  generalize w.alloc (.cells #[.slice a la ca, .slice m lm cm, .slice b lb cb, .slice n ln cn] 23) = V at *
  go_loopw [11, 12] (fun iv rv wr => ∃ k : Nat, k ≤ 4 ∧ iv = .int .i64 k ∧ (∀ j, j < k → eightB ([zs, ms, ys, ns].getD j []) = true) ∧ wr = V) (fun iv _ _ => 4 - (intOf iv).toNat)
  case atStart => exact ⟨0, Nat.zero_le _, rfl, fun j hj => by omega, rfl⟩
  case round =>
    obtain ⟨k, hk, rfl, heq, rfl⟩ := hrel
    have HQ : Hid (∀ j, j < k → eightB ([zs, ms, ys, ns].getD j []) = true) := heq
    clear heq
    by_cases hlt : k < 4
    · obtain ⟨xa, xn, xc, hc, hx⟩ := HCell.out k hlt
      obtain ⟨xs, hxs⟩ : ∃ xs, xs = [zs, ms, ys, ns].getD k [] := ⟨_, rfl⟩
      rw [← hxs] at hx
      have HX : Hid (xs = [zs, ms, ys, ns].getD k []) := hxs
      have hxl := hx.hlen
      have hxm := hx.hmax
      have hxc := hx.hcap
      unfold maxLen at hxm
      clear hxs
      cases hr : rightB xs with
      | false =>
        have HR : Hid (ResCrt zs ms ys ns [] 1) := crt_bad_at hzd hmd hyd hnd hlt (by rw [← HX.out]; simp [eightB, hr])
        clear hxl
        go_wp2_with fail
        refine (refRight_any _ _ _ _ _ hx).mono ?_
        rintro e w' ⟨rfl, rfl⟩
        rw [hr]
        go_wp2_with fail
        go_ret2
        exact ⟨none, 0, 0, [], 1, rfl, Nums.nil _, HR.out, hV⟩
      | true =>
        by_cases h8 : xn ≤ 8
        · have HE : Hid (eightB ([zs, ms, ys, ns].getD k []) = true) := by show _ = _; rw [← HX.out]; simp [eightB, hr, hxl, h8]
          have hd : decide ((8 : Int) < (xn : Int)) = false := by simp; omega
          clear hxl
          go_wp2_with fail
          refine (refRight_any _ _ _ _ _ hx).mono ?_
          rintro e w' ⟨rfl, rfl⟩
          rw [hr]
          go_wp2_with fail
          go_roundw
          case rel =>
            refine ⟨k + 1, by omega, by go_num, fun j hj => ?_, by first | rfl | trivial⟩
            by_cases hjk : j < k
            · exact HQ.out j hjk
            · obtain rfl : j = k := by omega
              exact HE.out
          case measure => simp [intOf]; omega
        · have HR : Hid (ResCrt zs ms ys ns [] 1) := crt_bad_at hzd hmd hyd hnd hlt (by rw [← HX.out]; simp [eightB, hxl, h8])
          have hd : (8 : Int) < (xn : Int) := by omega
          clear hxl
          go_wp2_with fail
          refine (refRight_any _ _ _ _ _ hx).mono ?_
          rintro e w' ⟨rfl, rfl⟩
          rw [hr]
          go_wp2_with fail
          go_ret2
          exact ⟨none, 0, 0, [], 1, rfl, Nums.nil _, HR.out, hV⟩
    · obtain rfl : k = 4 := by omega
      have E0 := HQ.out 0 (by omega)
      have E1 := HQ.out 1 (by omega)
      have E2 := HQ.out 2 (by omega)
      have E3 := HQ.out 3 (by omega)
      simp only [List.getD_cons_zero, List.getD_cons_succ, eightB, Bool.and_eq_true, decide_eq_true_eq] at E0 E1 E2 E3
      clear HQ HCell
      obtain ⟨rz, lz⟩ := E0
      obtain ⟨rm, lm8⟩ := E1
      obtain ⟨ry, ly⟩ := E2
      obtain ⟨rn, ln8⟩ := E3
      obtain ⟨d1, hd1⟩ : ∃ d1, d1 = cmpN ms (ofZ 2) := ⟨_, rfl⟩
      obtain ⟨d2, hd2⟩ : ∃ d2, d2 = cmpN ns (ofZ 2) := ⟨_, rfl⟩
      obtain ⟨d3, hd3⟩ : ∃ d3, d3 = cmpN zs ms := ⟨_, rfl⟩
      obtain ⟨d4, hd4⟩ : ∃ d4, d4 = cmpN ys ns := ⟨_, rfl⟩
      have HD : Hid ((d1 = cmpN ms (ofZ 2) ∧ d2 = cmpN ns (ofZ 2)) ∧ d3 = cmpN zs ms ∧ d4 = cmpN ys ns) := ⟨⟨hd1, hd2⟩, hd3, hd4⟩
      have HI : Hid (((d1 < 0 ∨ d2 < 0) ∨ (0 ≤ d3 ∨ 0 ≤ d4) → (isRestB zs ms && isRestB ys ns) = false) ∧ (0 ≤ d1 ∧ 0 ≤ d2 ∧ d3 < 0 ∧ d4 < 0 → isRestB zs ms = true ∧ isRestB ys ns = true)) := by
        have i1 := two_lt rm
        have i2 := two_lt rn
        have i3 := cmpN_lt rz rm
        have i4 := cmpN_lt ry rn
        rw [← hd1] at i1
        rw [← hd2] at i2
        rw [← hd3] at i3
        rw [← hd4] at i4
        constructor
        · intro h
          cases hb1 : isRestB zs ms with
          | false => rfl
          | true =>
            cases hb2 : isRestB ys ns with
            | false => rfl
            | true =>
              exfalso
              obtain ⟨_, _, _, q1, q2⟩ := isRest_got hb1
              obtain ⟨_, _, _, q3, q4⟩ := isRest_got hb2
              have := i3.2 q2
              have := i4.2 q4
              have n1 := mt i1.1 (by omega)
              have n2 := mt i2.1 (by omega)
              omega
        · rintro ⟨p1, p2, p3, p4⟩
          have q1 := mt i1.2 (by omega)
          have q2 := mt i2.2 (by omega)
          have q3 := i3.1 p3
          have q4 := i4.1 p4
          constructor
          · simp only [isRestB, rz, rm, Bool.true_and, Bool.and_eq_true, decide_eq_true_eq]
            exact ⟨lm8, by omega, q3⟩
          · simp only [isRestB, ry, rn, Bool.true_and, Bool.and_eq_true, decide_eq_true_eq]
            exact ⟨ln8, by omega, q4⟩
      clear hd1 hd2 hd3 hd4 lz ly
      go_wp2_with fail
      refine (refOf_any 2 _ (by omega)).mono ?_
      rintro e w1 ⟨oa, on, oc, rfl, ho, hb1⟩
      replace h0 := h0.below hb1
      replace h1 := h1.below hb1
      replace h2 := h2.below hb1
      replace h3 := h3.below hb1
      have hB1 := hV.trans (hb1.mono hV.size)
      clear hb1 hV
      go_wp2_with fail
      refine (refCmp_any _ _ _ _ _ _ _ _ _ h1 ho).mono ?_
      rintro e w2 ⟨rfl, hb2⟩
      rw [← HD.out.1.1]
      replace h0 := h0.below hb2
      replace h1 := h1.below hb2
      replace h2 := h2.below hb2
      replace h3 := h3.below hb2
      replace ho := ho.below hb2
      have hB2 := hB1.trans (hb2.mono hB1.size)
      clear hb2 hB1
      by_cases p1 : d1 < 0
      · have HR : Hid (ResCrt zs ms ys ns [] 1) := ResCrt.bad (HI.out.1 (.inl (.inl p1)))
        go_wp2_with fail
        go_ret2
        exact ⟨none, 0, 0, [], 1, rfl, Nums.nil _, HR.out, hB2⟩
      have p1' : decide (d1 < 0) = false := by simp; omega
      go_wp2_with fail
      refine (refCmp_any _ _ _ _ _ _ _ _ _ h3 ho).mono ?_
      rintro e w3 ⟨rfl, hb3⟩
      rw [← HD.out.1.2]
      replace h0 := h0.below hb3
      replace h1 := h1.below hb3
      replace h2 := h2.below hb3
      replace h3 := h3.below hb3
      have hB3 := hB2.trans (hb3.mono hB2.size)
      clear hb3 hB2 ho
      by_cases p2 : d2 < 0
      · have HR : Hid (ResCrt zs ms ys ns [] 1) := ResCrt.bad (HI.out.1 (.inl (.inr p2)))
        go_wp2_with fail
        go_ret2
        exact ⟨none, 0, 0, [], 1, rfl, Nums.nil _, HR.out, hB3⟩
      have p2' : decide (d2 < 0) = false := by simp; omega
      go_wp2_with fail
      refine (refCmp_any _ _ _ _ _ _ _ _ _ h0 h1).mono ?_
      rintro e w4 ⟨rfl, hb4⟩
      rw [← HD.out.2.1]
      replace h0 := h0.below hb4
      replace h1 := h1.below hb4
      replace h2 := h2.below hb4
      replace h3 := h3.below hb4
      have hB4 := hB3.trans (hb4.mono hB3.size)
      clear hb4 hB3
      by_cases p3 : 0 ≤ d3
      · have HR : Hid (ResCrt zs ms ys ns [] 1) := ResCrt.bad (HI.out.1 (.inr (.inl p3)))
        go_wp2_with fail
        go_ret2
        exact ⟨none, 0, 0, [], 1, rfl, Nums.nil _, HR.out, hB4⟩
      have p3' : decide (0 ≤ d3) = false := by simp; omega
      go_wp2_with fail
      refine (refCmp_any _ _ _ _ _ _ _ _ _ h2 h3).mono ?_
      rintro e w5 ⟨rfl, hb5⟩
      rw [← HD.out.2.2]
      replace h0 := h0.below hb5
      replace h1 := h1.below hb5
      replace h2 := h2.below hb5
      replace h3 := h3.below hb5
      have hB5 := hB4.trans (hb5.mono hB4.size)
      clear hb5 hB4
      by_cases p4 : 0 ≤ d4
      · have HR : Hid (ResCrt zs ms ys ns [] 1) := ResCrt.bad (HI.out.1 (.inr (.inr p4)))
        go_wp2_with fail
        go_ret2
        exact ⟨none, 0, 0, [], 1, rfl, Nums.nil _, HR.out, hB5⟩
      have p4' : decide (0 ≤ d4) = false := by simp; omega
      obtain ⟨hr, hr'⟩ := HI.out.2 ⟨by omega, by omega, by omega, by omega⟩
      clear HD HI p1 p2 p3 p4
      obtain ⟨-, -, -, m2, zm⟩ := isRest_got hr
      obtain ⟨-, -, -, n2, yn⟩ := isRest_got hr'
      have hm8 := val_lt_pow (B := 18446744073709551616) (by decide) hmd lm8
      have hn8 := val_lt_pow (B := 18446744073709551616) (by decide) hnd ln8
      have hn0 : ns.length ≠ 0 := by intro e; have : ns = [] := List.eq_nil_of_length_eq_zero e; subst this; simp [val] at n2
      have HP : Hid ((2 ≤ val 18446744073709551616 ms ∧ 2 ≤ val 18446744073709551616 ns ∧ ns.length ≠ 0) ∧ (val 18446744073709551616 zs < val 18446744073709551616 ms ∧ val 18446744073709551616 ys < val 18446744073709551616 ns) ∧ val 18446744073709551616 ms < 18446744073709551616 ^ 8 ∧ val 18446744073709551616 ns < 18446744073709551616 ^ 8) := ⟨⟨m2, n2, hn0⟩, ⟨zm, yn⟩, hm8, hn8⟩
      clear lm8 ln8 m2 n2 zm yn hm8 hn8 hn0
      go_wp2_with fail
      refine (hinv _ _ _ _ _ _ _ _ _ h1 h3).mono ?_
      rintro e u3 ⟨ka, kn, kc, ks, ke, rfl, hk, hkr, hb3⟩
      have HK : Hid (ResInv ms ns ks ke) := hkr
      replace h0 := h0.below hb3
      replace h1 := h1.below hb3
      replace h2 := h2.below hb3
      replace h3 := h3.below hb3
      have hB3 := hB5.trans (hb3.mono hB5.size)
      clear hkr hb3 hB5
      by_cases hke : ke = 0
      case neg =>
        have hq : (ke == 0) = false := by simp [hke]
        have HR : Hid (ResCrt zs ms ys ns [] ke) := by
          show ResCrt _ _ _ _ _ _
          unfold ResCrt
          rw [hr, hr', if_pos (by rfl)]
          exact ⟨ks, ke, HK.out, fun h => absurd h hke, fun _ => ⟨rfl, rfl⟩⟩
        go_wp2_with fail
        go_ret2
        exact ⟨none, 0, 0, [], ke, rfl, Nums.nil _, HR.out, hB3⟩
      subst hke
      have hinv : rightB ks = true ∧ Digs 18446744073709551616 ks ∧ val 18446744073709551616 ks < val 18446744073709551616 ns := by
        have := HK.out
        unfold ResInv at this
        rw [rm, rn, decide_eq_true HP.out.1.2.1, if_pos (by rfl)] at this
        split at this
        · exact ⟨this.2.2.1, this.2.1, this.2.2.2.1⟩
        · exact absurd this.1 (by decide)
      obtain ⟨rk, hkd, hkn⟩ := hinv
      have hsz := crt_sizes (a := val 18446744073709551616 zs) (b := val 18446744073709551616 ys) (m := val 18446744073709551616 ms) (n := val 18446744073709551616 ns) (i := val 18446744073709551616 ks) ⟨val_nonneg (by decide) hzd, HP.out.2.1.1⟩ ⟨val_nonneg (by decide) hyd, HP.out.2.1.2⟩ HP.out.2.2.1 HP.out.2.2.2 ⟨val_nonneg (by decide) hkd, hkn⟩
      have e64 : (18446744073709551616 : Int) ^ 16 < 18446744073709551616 ^ 64 := by decide
      have e8 : (18446744073709551616 : Int) ^ 8 < 18446744073709551616 ^ 64 := by decide
      have HS := (show Hid _ from And.intro hsz (And.intro e64 e8))
      clear hsz e64 e8 hkn
      go_wp2_with fail
      refine (refFrom_any false _ _ _ _ _ h2).mono ?_
      rintro e w4 ⟨ba, bn, bc, rfl, hb, hb4⟩
      rw [(fromD ry).1] at hb
      rw [(fromD ry).2]
      replace h0 := h0.below hb4
      replace h1 := h1.below hb4
      replace h3 := h3.below hb4
      replace hk := hk.below hb4
      have hB4 := hB3.trans (hb4.mono hB3.size)
      clear hb4 hB3 h2
      go_wp2_with fail
      refine (refFrom_any false _ _ _ _ _ h0).mono ?_
      rintro e w5 ⟨aa, an, ac, rfl, ha, hb5⟩
      rw [(fromD rz).1] at ha
      rw [(fromD rz).2]
      replace h0 := h0.below hb5
      replace h1 := h1.below hb5
      replace h3 := h3.below hb5
      replace hk := hk.below hb5
      replace hb := hb.below hb5
      have hB5 := hB4.trans (hb5.mono hB4.size)
      clear hb5 hB4
      go_wp2_with fail
      refine (refISub_any false false _ _ _ _ _ _ _ _ _ hb ha).mono ?_
      rintro e w6 ⟨tp, fa7, fn7, fc7, tl, err, rfl, hT, hres, hb6⟩
      have hw := Res2I.got (rightD ry) (rightD rz) hres
      have hw2 : ResW (val 18446744073709551616 ys - val 18446744073709551616 zs) tp tl err := hw
      obtain ⟨rfl, vT, rT⟩ := ResW.fits hw2 HS.out.1.1 HS.out.2.2
      have HVT : Hid (iv tp tl = val 18446744073709551616 ys - val 18446744073709551616 zs) := vT
      have hV := (Below.refl w6.heap.size w6).alloc (Nat.le_refl _) (.cells #[.bool tp, .slice fa7 fn7 fc7] 48)
      have b6 := hb6.trans (hV.mono hb6.size)
      replace h0 := h0.below b6
      replace h1 := h1.below b6
      replace h3 := h3.below b6
      replace hk := hk.below b6
      replace hT := hT.below hV
      have c70 : (w6.alloc (.cells #[.bool tp, .slice fa7 fn7 fc7] 48)).cell? ⟨w6.heap.size, 0, none⟩ = some (.bool tp) := by simp
      have c71 : (w6.alloc (.cells #[.bool tp, .slice fa7 fn7 fc7] 48)).cell? ⟨w6.heap.size, 1, none⟩ = some (.slice fa7 fn7 fc7) := by simp
      have kr : w6.heap.size < (w6.alloc (.cells #[.bool tp, .slice fa7 fn7 fc7] 48)).heap.size := by simp
      have hB6 := hB5.trans (b6.mono hB5.size)
      clear hb6 hB5 hb ha hres hw hw2 vT b6 hV
      go_upto_region 15 with fail
      generalize w6.alloc (.cells #[.bool tp, .slice fa7 fn7 fc7] 48) = V at *
      generalize w6.heap.size = g at *
      have HFr : Hid (∀ wx, Below V.heap.size V wx → Calls Try.prog 36 #[.bool false, .slice ka kn kc] wx fun e w' => ∃ ya yn yc, e = .returned (.agg #[.bool false, .slice ya yn yc]) ∧ Hid (Nums w' ya yn yc ks ∧ Below V.heap.size V w') ∧ (w'.cell? ⟨g, 0, none⟩ = some (.bool tp) ∧ w'.cell? ⟨g, 1, none⟩ = some (.slice fa7 fn7 fc7)) ∧ g < w'.heap.size ∧
          (∀ b o, b < wx.heap.size → w'.cell? ⟨b, o, none⟩ = wx.cell? ⟨b, o, none⟩) ∧ (∀ b o, b < wx.heap.size → w'.frozen? ⟨b, o, none⟩ = wx.frozen? ⟨b, o, none⟩) ∧ (∀ b, b < wx.heap.size → b < w'.heap.size)) := by
        intro wx hbx
        refine (refFrom_any false _ _ _ _ wx (hk.below hbx)).mono ?_
        rintro e w' ⟨ya, yn, yc, rfl, hY, hb⟩
        rw [(fromD rk).1] at hY
        rw [(fromD rk).2]
        have hb' := hbx.trans (hb.mono hbx.size)
        have q0 := bkeep hb' c70 rfl
        exact ⟨ya, yn, yc, rfl, ⟨hY, hb'⟩, ⟨q0, bkeep hb' c71 rfl⟩, World.block_lt_of_cell? _ _ q0, bfactsD hb⟩
      have HMu : Hid (∀ wx ya yn yc, Nums wx ya yn yc ks → Below V.heap.size V wx → Calls Try.prog 37 #[.agg #[.bool tp, .slice fa7 fn7 fc7], .agg #[.bool false, .slice ya yn yc]] wx fun e w' => ∃ mp ma mn mc, e = .returned (.tuple #[.agg #[.bool mp, .slice ma mn mc], .int .i64 0]) ∧ Hid (∃ ml, Nums w' ma mn mc ml ∧ rightI mp ml = true ∧ iv mp ml = (val 18446744073709551616 ys - val 18446744073709551616 zs) * val 18446744073709551616 ks ∧ Below V.heap.size V w') ∧
          (∀ b o, b < wx.heap.size → w'.cell? ⟨b, o, none⟩ = wx.cell? ⟨b, o, none⟩) ∧ (∀ b o, b < wx.heap.size → w'.frozen? ⟨b, o, none⟩ = wx.frozen? ⟨b, o, none⟩) ∧ (∀ b, b < wx.heap.size → b < w'.heap.size)) := by
        intro wx ya yn yc hY hbx
        refine (refIMul_any tp false _ _ _ _ _ _ _ _ wx (hT.below hbx) hY).mono ?_
        rintro e w' ⟨mp, ma, mn, mc, ml, err, rfl, hM, hres, hb⟩
        have hw := Res2I.got rT (rightD rk) hres
        rw [HVT.out] at hw
        obtain ⟨rfl, g1, g2⟩ := ResW.fits (v := (val 18446744073709551616 ys - val 18446744073709551616 zs) * val 18446744073709551616 ks) hw HS.out.1.2.1 HS.out.2.1
        exact ⟨mp, ma, mn, mc, rfl, ⟨ml, hM, g2, g1, hbx.trans (hb.mono hbx.size)⟩, bfactsD hb⟩
      have HKeep : Hid (Nums V a la ca zs ∧ Nums V m lm cm ms ∧ Nums V n ln cn ns ∧ Below w.heap.size w V) := ⟨h0, h1, h3, hB6⟩
      clear h0 h1 h3 hB6 hk hT
      go_cut [18] (fun pv wx => ∃ g14, pv = .pointer (some ⟨g14, 0, none⟩) ∧ Fac wx g14 ((val 18446744073709551616 ys - val 18446744073709551616 zs) * val 18446744073709551616 ks) ∧ Below V.heap.size V wx)
      case first =>
        clear HKeep
        go_region_with (first
          | (go_at_call 36; refine (HFr.out _ ?_).mono ?_; (focus (repeat (first | exact Below.refl _ _ | refine bdrawD ?_ | refine bgrowD ?_ _))); rintro e w3' ⟨ya, yn, yc, rfl, hY, ⟨q0, q1⟩, kq, hc3, hf3, hs3⟩; (try have m30 := hc3 V.heap.size 0 (by first | omega | (simp; done) | (simp; omega))); (try have m31 := hc3 V.heap.size 1 (by first | omega | (simp; done) | (simp; omega))); (try have n30 := hf3 V.heap.size 0 (by first | omega | (simp; done) | (simp; omega))); (try have n31 := hf3 V.heap.size 1 (by first | omega | (simp; done) | (simp; omega))); (try have k3 := hs3 V.heap.size (by first | omega | (simp; done) | (simp; omega))); clear hc3 hf3 hs3)
          | (go_at_call 37; refine (HMu.out _ ya yn yc ?_ ?_).mono ?_; (focus (repeat (first | exact hY.out.1 | refine Nums.drawD ?_ | refine Nums.growD ?_ _))); (focus (repeat (first | exact hY.out.2 | refine bdrawD ?_ | refine bgrowD ?_ _))); rintro e w4' ⟨mp, ma, mn, mc, rfl, hM, hc4, hf4, hs4⟩; (try have m40 := hc4 V.heap.size 0 (by first | omega | (simp; done) | (simp; omega))); (try have m41 := hc4 V.heap.size 1 (by first | omega | (simp; done) | (simp; omega))); (try have n40 := hf4 V.heap.size 0 (by first | omega | (simp; done) | (simp; omega))); (try have n41 := hf4 V.heap.size 1 (by first | omega | (simp; done) | (simp; omega))); (try have k4 := hs4 V.heap.size (by first | omega | (simp; done) | (simp; omega))); (try have m42 := hc4 w3'.heap.size 0 (by first | omega | (simp; done) | (simp; omega))); (try have m43 := hc4 w3'.heap.size 1 (by first | omega | (simp; done) | (simp; omega))); (try have n42 := hf4 w3'.heap.size 0 (by first | omega | (simp; done) | (simp; omega))); (try have n43 := hf4 w3'.heap.size 1 (by first | omega | (simp; done) | (simp; omega))); clear hc4 hf4 hs4))
        all_goals
          clear HFr HMu
          go_wp2_with fail
          go_meet
          case rel =>
            obtain ⟨ml, hMs, rMs, vMs, hbM⟩ := hM.out
            have hz3 := hY.out.2.size
            first
              | exact ⟨_, rfl, fac_alloc hMs rMs vMs, bgrowD hbM _⟩
              | (refine ⟨_, rfl, fac_put (q := false) (sa := none) (sn := 0) (sc := 0) ?_ ?_ ?_ ?_ hMs rMs vMs, (hbM.setCell ?_ _).setCell ?_ _⟩
                 · go_simp
                 · go_simp
                 · go_simp
                 · go_simp
                 · first | (simp; done) | (simp; omega)
                 · first | (simp; done) | (simp; omega))
      case rest =>
        obtain ⟨g14, rfl, F14, hb7⟩ := hcut
        obtain ⟨h0, h1, h3, hB6⟩ := HKeep.out
        replace h0 := h0.below hb7
        replace h1 := h1.below hb7
        replace h3 := h3.below hb7
        have hB7 := hB6.trans (hb7.mono hB6.size)
        obtain ⟨sp, sa, sn, sc, sl, ⟨d0, d1⟩, -, hS, rS, vS⟩ := F14
        have HVS : Hid (iv sp sl = (val 18446744073709551616 ys - val 18446744073709551616 zs) * val 18446744073709551616 ks) := vS
        clear HKeep HFr HMu hb7 hB6 vS c70 c71
        obtain ⟨v9, hv9⟩ : ∃ v9, v9 = wc := ⟨_, rfl⟩
        rw [← hv9] at h0 h1 h3 hB7 d0 d1 hS ⊢
        clear hv9
        have HS9 : Hid (Nums v9 a la ca zs ∧ Nums v9 m lm cm ms ∧ Below w.heap.size w v9) := ⟨h0, h1, hB7⟩
        have kg : g14 < v9.heap.size := World.block_lt_of_cell? _ _ d0
        have HG16 : Hid (Nums v9 sa sn sc sl ∧ rightI sp sl = true ∧ Nums v9 n ln cn ns) := ⟨hS, rS, h3⟩
        clear h0 h1 h3 hB7 hS rS
        go_upto_region 16 with fail
        go_cut [21] (fun pv wx => ∃ g21, pv = .pointer (some ⟨g21, 0, none⟩) ∧ Fac wx g21 (iv sp sl % val 18446744073709551616 ns) ∧ Below v9.heap.size v9 wx)
        case first =>
          clear HS9 HVS HK HS
          obtain ⟨hS, rS, h3⟩ := HG16.out
          refine crt_region _ _ _ _ _ _ _ _ _ _ _ _ _ _ _ _ _ _ _ _ _ _ _ _ _ _ _ _ _ _ _ _ _ _ _ _ _ _ _ _ _ _ _ _ _ _ _ _ _ _ _ _ _ _ _ _ _ _ _ _ _ _ _ _ _ _ _ _ _ _ _ _ _ _ _ _ _ _ _ _ _ _ _ _ _ _ _ _ _ _ _ _ _ _ _ _ _ _ _ _ _ _ _ _ _ _ _ _ _ _ _ _ _ _ _ _ _ _ _ _ v9 g14 sp sa sn sc sl n ln cn ns d0 d1 hS rS h3 rn HP.out.1.2.1 HP.out.1.2.2 ?_
          intro c99 c100 c101 c102 c98 c103 c104 c105 c20 c22 g21 w' hF hB
          clear HG16 hS rS h3 HP
          go_wp2_with fail
          go_meet
          case rel => exact ⟨g21, rfl, hF, hB⟩
        case rest =>
          obtain ⟨g21, rfl, F21, hb10⟩ := hcut
          obtain ⟨h0, h1, hB9⟩ := HS9.out
          replace h0 := h0.below hb10
          replace h1 := h1.below hb10
          have hB10 := hB9.trans (hb10.mono hB9.size)
          obtain ⟨rp, ra, rn', rc, rs, ⟨x0, x1⟩, -, hR, rR, vR⟩ := F21
          have hrp : rp = false := by
            cases rp with
            | false => rfl
            | true =>
              exfalso
              have hb' := rightI_B rR
              have hnn := Int.emod_nonneg (iv sp sl) (show val 18446744073709551616 ns ≠ 0 by have := HP.out.1.2.1; omega)
              have hl : rs.length ≠ 0 := by intro e; simp [rightI, e] at rR
              have hpos := right_pos hR.digs hb' hl
              have e : iv true rs = - val 18446744073709551616 rs := rfl
              omega
          subst hrp
          have vR' : val 18446744073709551616 rs = iv sp sl % val 18446744073709551616 ns := vR
          rw [HVS.out] at vR'
          have HVR : Hid (val 18446744073709551616 rs = (val 18446744073709551616 ys - val 18446744073709551616 zs) * val 18446744073709551616 ks % val 18446744073709551616 ns) := vR'
          have rR' := rightI_B rR
          clear HS9 hb10 hB9 vR vR' rR HG16
          go_wp2_with fail
          refine (refMul_any _ _ _ _ _ _ _ _ _ h1 hR).mono ?_
          rintro e y9 ⟨pa, pn, pc, ps, pe, rfl, hP, hPr, hb11⟩
          have hpg := hPr.got rm rR'
          rw [Int.mul_comm, HVR.out] at hpg
          have hpv := res_fits hpg (by have h1 := HS.out.1.2.2.1.2; have h2 := HS.out.2.1; omega)
          have HPV := (show Hid _ from hpv)
          replace h0 := h0.below hb11
          have hB11 := hB10.trans (hb11.mono hB10.size)
          clear hPr hb11 hB10 hR h1 hpv hpg x0 x1
          go_wp2_with fail
          refine (refAdd_any _ _ _ _ _ _ _ _ _ h0 hP).mono ?_
          rintro e y10 ⟨xa, xn, xc, xs, xe, rfl, hX, hXr, hb12⟩
          have hxv := res_fits (hXr.got rz HPV.out.2.2.1) (by rw [HPV.out.2.2.2]; have h1 := HS.out.1.2.2.2; have h2 := HS.out.2.1; omega)
          obtain ⟨rfl, xd, xr, xv⟩ := hxv
          rw [HPV.out.2.2.2] at xv
          have HR : Hid (ResCrt zs ms ys ns xs 0) := by
            show ResCrt _ _ _ _ _ _
            unfold ResCrt
            rw [hr, hr', if_pos (by rfl)]
            exact ⟨ks, 0, HK.out, fun _ => ⟨rfl, xd, xr, xv⟩, fun h => absurd rfl h⟩
          have hB12 := hB11.trans (hb12.mono hB11.size)
          clear hXr hb12 hB11 xv
          go_wp2_with fail
          go_ret2
          exact ⟨_, _, _, xs, _, rfl, hX, HR.out, hB12⟩
end Go.Proofs.Ytfafbggijhghcab

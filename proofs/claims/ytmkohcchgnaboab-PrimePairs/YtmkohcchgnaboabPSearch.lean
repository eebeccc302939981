/-
  Contracts of the program's own drawn and Search.
-/
import Derived.Test.YtmkohcchgnaboabPLeast
import Derived.Test.YtmkohcchgnaboabRefSearch
import Derived.Test.YtmkohcchgnaboabReadB
import Derived.Laws.Bits64b
namespace Go.Proofs.Ytmkohcchgnaboab
open Go.RowKit

theorem res_word {v : Int} {ls : List Int} {e : Int} (h : Res v ls e) (hv : v < 18446744073709551616) : smallZ ls = v := by
  rcases h with ⟨_, hd, ht, hl, e⟩ | ⟨_, _, zs, hd, ht, e, hl⟩
  · have h1 : ls.length ≤ 1 := len_le (B := 18446744073709551616) (by decide) hd ht (by rw [e]; omega)
    unfold smallZ
    rw [right_mk hl ht, if_pos (by simpa using h1)]
    match ls, h1 with
    | [], _ => simpa [val] using e
    | [y], _ => simpa [val] using e
  · have h1 : zs.length ≤ 1 := len_le (B := 18446744073709551616) (by decide) hd ht (by rw [e]; omega)
    omega

theorem cand_bits {m x : Nat} (hm2 : m ≤ 39) (hx : x < 18446744073709551616) :
    bits .or .u64 (bits .or .u64 (bits .and .u64 (x : Int) ((2 ^ m : Nat) - 1 : Int)) ((2 ^ m : Nat) : Int)) 1 = ((candidate (2 ^ m) x : Nat) : Int) := by
  have hp : 2 ^ m ≤ 2 ^ 39 := Nat.pow_le_pow_right (by omega) hm2
  have hp0 : 0 < 2 ^ m := Nat.pow_pos (by decide)
  have hc := candidate_or (T := 2 ^ m) (x := x) rfl
  have e1 : ((2 ^ m : Nat) - 1 : Int) = ((2 ^ m - 1 : Nat) : Int) := by omega
  have l1 : x &&& (2 ^ m - 1) < 2 ^ 64 := Nat.and_lt_two_pow _ (by omega)
  have l2 : (x &&& (2 ^ m - 1)) ||| 2 ^ m < 2 ^ 64 := Nat.or_lt_two_pow l1 (by omega)
  rw [e1, bits_and_u64_nat x _ hx (by omega), bits_or_u64_nat _ _ (by omega) (by omega), show (1 : Int) = ((1 : Nat) : Int) by rfl, bits_or_u64_nat _ _ (by omega) (by omega), hc]

/-- What a try takes from a tape. -/
def DrawnT (w : World) (g : Nat) (k T : Nat) (L : List Int) (e : Ending) (w' : World) : Prop :=
  (L.length < k ∧ e = .returned (.tuple #[.int .u64 0, .int .i64 7]) ∧ TapeAt w' g L ∧ w.grownBy w' (some g)) ∨
  (k ≤ L.length ∧ e = .returned (.tuple #[.int .u64 ((candidate T (val 256 (L.take k).reverse).toNat : Nat) : Int), .int .i64 0]) ∧ TapeAt w' g (L.drop k) ∧ w.grownBy w' (some g))

set_option maxRecDepth 20000 in
set_option maxHeartbeats 1600000 in
theorem drawn_any (g : Nat) (L : List Int) (m k : Nat) (w : World) (hT : TapeAt w g L) (hm : 7 ≤ m ∧ m ≤ 39) (hk : ((m : Int) + 1 + 7) / 8 = (k : Int)) :
    Calls Try.prog 36 #[.pointer (some ⟨g, 0, none⟩), .int .i64 ((m : Int) + 1)] w fun e w' => DrawnT w g k (2 ^ m) L e w' := by
  have hk5 : 1 ≤ k ∧ k ≤ 5 := by omega
  have hTk : Hid (∀ wx : World, TapeAt wx g L → Calls Try.prog 49 #[.pointer (some ⟨g, 0, none⟩), .int .i64 (((m : Int) + 1 + 7) / 8)] wx fun e w' => TakeT TapeAt wx g L k e w') := fun wx hx => by
    rw [hk]; exact take_any g L k wx hx
  have HK : Hid (((m : Int) + 1 + 7) / 8 = (k : Int)) := hk
  clear hk
  go_enter Try.func36, Try.ntmps36
  go_wp2_with fail
  refine (hTk.out _ hT).mono ?_
  rintro e w1 ⟨ta, tl, tc, tb, te, R, rfl, hby, -, hrt, hT1, hg1⟩
  clear hTk hT
  by_cases hlen : L.length < k
  · obtain ⟨e1, e2, e3⟩ := hrt.over hlen (by omega)
    subst e1
    subst e2
    rw [e3] at hT1
    clear hrt hby e3
    go_wp2
    go_ret2
    exact .inl ⟨hlen, rfl, hT1, hg1⟩
  · obtain ⟨rfl, rfl, rfl⟩ := hrt.ok (by omega) (by omega)
    have hdg := hby.digs
    have hv := be_bd hdg k hk5.2
    rw [List.take_of_length_le (by simp; omega)] at hv
    clear hrt hdg
    go_wp2_with fail
    refine (read_any _ _ _ _ _ hby).mono ?_
    rintro e w2 ⟨na, nl, nc, ls, ne, rfl, hnu, hres, hb2⟩
    have hsm := res_word hres (by omega)
    have HT2 : Hid (TapeAt w2 g (L.drop k)) := hT1.below hb2
    have HG2 : Hid (w.grownBy w2 (some g)) := grown_trans hg1 (grown_of_below hb2 _)
    clear hby hT1 hg1 hb2 hres
    go_wp2_with fail
    refine (small_any _ _ _ _ _ hnu).mono ?_
    rintro e w3 ⟨rfl, rfl⟩
    rw [hsm]
    obtain ⟨x, hx⟩ : ∃ x : Nat, val 256 (L.take k).reverse = (x : Int) := ⟨_, (Int.toNat_of_nonneg hv.1).symm⟩
    have HX : Hid (val 256 (L.take k).reverse = (x : Int)) := hx
    rw [hx]
    have hxb : x < 1099511627776 := by omega
    have hc := cand_bits (m := m) (x := x) hm.2 (by omega)
    have hp : 2 ^ m ≤ 2 ^ 39 := Nat.pow_le_pow_right (by omega) hm.2
    have hp0 : 0 < 2 ^ m := Nat.pow_pos (by decide)
    obtain ⟨T, hTe⟩ : ∃ T : Nat, T = 2 ^ m := ⟨_, rfl⟩
    have hTi : (2 : Int) ^ m = (T : Int) := by rw [hTe]; simp
    have HTe : Hid (T = 2 ^ m) := hTe
    rw [← hTe] at hc hp hp0
    have HC : Hid (bits .or .u64 (bits .or .u64 (bits .and .u64 (x : Int) ((T : Int) - 1)) (T : Int)) 1 = ((candidate T x : Nat) : Int)) := hc
    have hTb : (T : Int) ≤ 549755813888 := by omega
    have hT0 : (0 : Int) < (T : Int) := by omega
    clear hc hsm hnu hx hv hTe hp
    go_wp2
    go_ret2
    refine .inr ⟨by omega, ?_, HT2.out, HG2.out⟩
    rw [HX.out, ← HTe.out]
    first
      | (rw [HC.out]; simp)
      | (simp only [HC.out]; simp)
set_option maxRecDepth 20000 in
set_option maxHeartbeats 400000 in
theorem search_nil (B t : Int) (w : World) :
    Calls Try.prog 23 #[.pointer none, .int .i64 B, .int .i64 t] w fun e w' => e = .returned (.tuple #[.int .u64 0, .int .i64 1]) ∧ w' = w := by
  go_enter Try.func23, Try.ntmps23
  go_wp2
  go_ret2
  exact ⟨rfl, rfl⟩

set_option maxRecDepth 20000 in
set_option maxHeartbeats 3200000 in
theorem search_any (g : Nat) (L : List Int) (B t : Int) (w : World) (hT : TapeAt w g L) :
    Calls Try.prog 23 #[.pointer (some ⟨g, 0, none⟩), .int .i64 B, .int .i64 t] w fun e w' => SearchT TapeAt w g B t L e w' := by
  have bad : (B < 8 ∨ 40 < B ∨ t < 1 ∨ 10000 < t) → SearchT TapeAt w g B t L (.returned (.tuple #[.int .u64 0, .int .i64 1])) w := fun h =>
    ⟨0, 1, L, rfl, by unfold ResSearch; rw [if_pos h]; exact ⟨rfl, rfl, rfl⟩, hT, World.grownBy.refl _ _⟩
  by_cases c0 : B < 8
  · have HB := (show Hid _ from bad (.inl c0))
    clear bad
    go_enter Try.func23, Try.ntmps23
    go_wp2
    go_ret2
    exact HB.out
  have d0 : decide (B < 8) = false := decide_eq_false c0
  by_cases c1 : 40 < B
  · have HB := (show Hid _ from bad (.inr (.inl c1)))
    clear bad
    go_enter Try.func23, Try.ntmps23
    go_wp2
    go_ret2
    exact HB.out
  have d1 : decide (40 < B) = false := decide_eq_false c1
  by_cases c2 : t < 1
  · have HB := (show Hid _ from bad (.inr (.inr (.inl c2))))
    clear bad
    go_enter Try.func23, Try.ntmps23
    go_wp2
    go_ret2
    exact HB.out
  have d2 : decide (t < 1) = false := decide_eq_false c2
  by_cases c3 : 10000 < t
  · have HB := (show Hid _ from bad (.inr (.inr (.inr c3))))
    clear bad
    go_enter Try.func23, Try.ntmps23
    go_wp2
    go_ret2
    exact HB.out
  have d3 : decide (10000 < t) = false := decide_eq_false c3
  obtain ⟨m, rfl⟩ : ∃ m : Nat, B = (m : Int) + 1 := ⟨B.toNat - 1, by omega⟩
  obtain ⟨n, rfl⟩ : ∃ n : Nat, t = (n : Int) := ⟨t.toNat, by omega⟩
  obtain ⟨k, hk1, hk2⟩ : ∃ k : Nat, ((m : Int) + 1 + 7) / 8 = (k : Int) ∧ 1 ≤ k ∧ k ≤ 5 := ⟨(m + 8) / 8, by omega, by omega⟩
  have hm : 7 ≤ m ∧ m ≤ 39 := by omega
  obtain ⟨T, hTe⟩ : ∃ T, T = 2 ^ m := ⟨_, rfl⟩
  have hT2 : T % 2 = 0 := by
    rw [hTe, show m = (m - 1) + 1 by omega, Nat.pow_succ]; omega
  have hp : 2 ^ m ≤ 2 ^ 39 := Nat.pow_le_pow_right (by omega) hm.2
  have hp0 : 0 < 2 ^ m := Nat.pow_pos (by decide)
  rw [← hTe] at hp hp0
  have HRS : Hid (∀ p e R, Srch k T n L p e R → ResSearch ((m : Int) + 1) n L p e R) := fun p e R h => by
    unfold ResSearch
    rw [if_neg (by omega)]
    have e1 : (((m : Int) + 1 + 7) / 8).toNat = k := by omega
    have e2 : ((m : Int) + 1).toNat - 1 = m := by omega
    have e3 : (n : Int).toNat = n := by omega
    rw [e1, e2, e3, ← hTe]
    exact h
  have HDr : Hid (∀ (wx : World) (Lx : List Int), TapeAt wx g Lx → Calls Try.prog 36 #[.pointer (some ⟨g, 0, none⟩), .int .i64 ((m : Int) + 1)] wx fun e w' => DrawnT wx g k T Lx e w') := fun wx Lx hx => by
    rw [hTe]; exact drawn_any g Lx m k wx hx hm hk1
  have hT39 : T ≤ 549755813888 := by omega
  have hn1 : 1 ≤ n ∧ n ≤ 10000 := by omega
  clear bad c0 c1 c2 c3 hk1 hTe hp
  go_enter Try.func23, Try.ntmps23
  go_wp2
  go_loopw [29] (fun iv wr => ∃ i : Nat, i ≤ n ∧ iv = .int .i64 i ∧ ∃ Lc, TapeAt wr g Lc ∧ Hid (∀ p e R, Srch k T (n - i) Lc p e R → Srch k T n L p e R) ∧ w.grownBy wr (some g)) (fun iv _ => n - (intOf iv).toNat)
  case atStart => exact ⟨0, Nat.zero_le _, rfl, L, hT, fun p e R h => h, World.grownBy.refl _ _⟩
  case round =>
    clear hT
    obtain ⟨i, hi, rfl, Lc, hTc, HC, hgr⟩ := hrel
    by_cases hlt : i < n
    · have hlti : (i : Int) < (n : Int) := by omega
      have HC1 := (show Hid _ from srch_tail hlt HC.out)
      clear HC
      go_wp2_with fail
      refine (HDr.out _ _ hTc).mono ?_
      rintro e w4 (⟨hlen, rfl, hT4, hg4⟩ | ⟨hlen, rfl, hT4, hg4⟩)
      · have hgr4 := grown_trans hgr hg4
        have HR : Hid (ResSearch ((m : Int) + 1) n L 0 7 Lc) := HRS.out _ _ _ (HC1.out _ _ _ (.inl ⟨hlen, rfl, rfl, rfl⟩))
        clear hTc hgr hg4 HC1
        go_wp2
        go_ret2
        exact ⟨0, 7, Lc, rfl, HR.out, hT4, hgr4⟩
      · have hgr4 := grown_trans hgr hg4
        obtain ⟨c, hc⟩ : ∃ c, c = candidate T (val 256 (Lc.take k).reverse).toNat := ⟨_, rfl⟩
        have hcb := candidate_bd (T := T) (x := (val 256 (Lc.take k).reverse).toNat) hT2 hp0
        have HCa : Hid (candidate T (val 256 (Lc.take k).reverse).toNat = c) := hc.symm
        rw [← hc] at hcb ⊢
        have HHit : Hid (Pr c → ResSearch ((m : Int) + 1) n L c 0 (Lc.drop k)) := fun hp =>
          HRS.out _ _ _ (HC1.out _ _ _ (.inr (.inl ⟨hlen, by rw [HCa.out]; exact hp, HCa.out.symm, rfl, rfl⟩)))
        have HMiss : Hid (¬ Pr c → ∀ p e R, Srch k T (n - (i + 1)) (Lc.drop k) p e R → Srch k T n L p e R) := fun hp p e R h =>
          HC1.out _ _ _ (.inr (.inr ⟨hlen, by rw [HCa.out]; exact hp, h⟩))
        clear HC1 HCa hc hTc hgr hg4
        go_wp2_with fail
        refine (least_any c _ (by omega)).mono ?_
        rintro e w5 ⟨d, rfl, hd, hdle, hb5⟩
        have hT5 := hT4.below hb5
        have hgr5 := grown_trans hgr4 (grown_of_below hb5 (some g))
        have hpr := hd.isPr (by omega)
        clear hT4 hgr4 hb5 HDr
        by_cases hdc : d = c
        · subst hdc
          have HR := (show Hid _ from HHit.out (hpr.1 rfl))
          clear hpr hd HHit HMiss HRS
          go_wp2
          go_ret2
          exact ⟨d, 0, Lc.drop k, rfl, HR.out, hT5, hgr5⟩
        · have HM := (show Hid _ from HMiss.out (fun h => hdc (hpr.2 h)))
          have hne : ((d : Int) == (c : Int)) = false := by simp; omega
          clear hpr hd HHit HMiss hdc HRS
          go_wp2
          go_roundw
          case rel => exact ⟨i + 1, by omega, by go_num, Lc.drop k, hT5, HM, hgr5⟩
          case measure => simp [intOf]; omega
    · have hin : i = n := by omega
      have hid : decide ((i : Int) < (n : Int)) = false := decide_eq_false (by omega)
      have HR : Hid (ResSearch ((m : Int) + 1) n L 0 8 Lc) := HRS.out _ _ _ (HC.out _ _ _ (by rw [hin, Nat.sub_self]; exact ⟨rfl, rfl, rfl⟩))
      clear HC HRS HDr hlt
      go_wp2
      go_ret2
      exact ⟨0, 8, Lc, rfl, HR.out, hTc, hgr⟩
end Go.Proofs.Ytmkohcchgnaboab

/-
  Contracts of package paillier's May, isBelow, apart, isHider and isCipher.
-/
import Derived.Test.YtambpcgdaogojabGreatQRing
import Derived.Test.YtambpcgdaogojabGreatNatD
import Derived.Test.YtambpcgdaogojabGreatNatA
import Derived.Test.YtambpcgdaogojabGreatGcdC
import Derived.Test.YtambpcgdaogojabGreatP6LawsO
namespace Go.Proofs.YtambpcgdaogojabGreat
open Go.RowKit

theorem bit_odd {ns : List Int} (hd : Digs 18446744073709551616 ns) (hr : rightB ns = true) : bitB ns 0 = decide (nv ns % 2 = 1) := by
  have h := nv_odd hd
  unfold bitB
  rw [hr]
  cases ns with
  | nil => simp [nv, val]
  | cons x r =>
    simp at h ⊢
    omega

set_option maxRecDepth 20000 in
set_option maxHeartbeats 1600000 in
theorem may_ok6 : MayOk := by
  intro a la ca ns w h
  have HR := (show Hid _ from right_any _ _ _ _ _ h)
  have HB := (show Hid _ from bits_any _ _ _ _ _ h)
  have HD := (show Hid _ from bit_any _ _ _ _ 0 _ h (by decide))
  obtain ⟨z, hz⟩ : ∃ z, z = bitsZ ns := ⟨_, rfl⟩
  rw [← hz] at HB
  cases hr : rightB ns with
  | false =>
    rw [hr] at HR
    have HE : Hid (pubB ns = false) := by show _ = _; simp [pubB, hr]
    clear h hz HB HD
    go_enter Tryz.func49, Tryz.ntmps49
    go_wp2_with fail
    refine Calls.mono HR.out ?_
    rintro e w1 ⟨rfl, rfl⟩
    clear HR
    go_wp2
    go_ret
    exact ⟨ret_bool HE.out.symm, Below.refl _ _⟩
  | true =>
    rw [hr] at HR
    rw [bit_odd h.digs hr] at HD
    have h15 := bits_15 h.digs hr
    have h80 := bits_80 h.digs hr
    rw [← hz] at h15 h80
    have HE : Hid (pubB ns = (decide (nv ns % 2 = 1) && (decide ((15 : Int) ≤ z) && decide (z ≤ (80 : Int))))) := by
      show _ = _
      have e2 : decide ((15 : Int) ≤ z) = decide (16384 ≤ nv ns) := by rw [decide_eq_decide]; exact h15
      have e3 : decide (z ≤ (80 : Int)) = decide (nv ns < 1208925819614629174706176) := by rw [decide_eq_decide]; exact h80
      rw [e2, e3]
      simp [pubB, mayN, hr]
    obtain ⟨o, ho⟩ : ∃ o, o = decide (nv ns % 2 = 1) := ⟨_, rfl⟩
    rw [← ho] at HE HD
    clear h hz h15 h80 ho
    cases o with
    | false =>
      have HT : Hid (pubB ns = false) := by show _ = _; rw [HE.out]; rfl
      clear HE HB
      go_enter Tryz.func49, Tryz.ntmps49
      go_wp2_with fail
      refine Calls.mono HR.out ?_
      rintro e w1 ⟨rfl, rfl⟩
      clear HR
      go_wp2_with fail
      refine Calls.mono HD.out ?_
      rintro e w2 ⟨rfl, rfl⟩
      clear HD
      go_wp2
      go_ret
      exact ⟨ret_bool HT.out.symm, Below.refl _ _⟩
    | true =>
      by_cases c2 : (15 : Int) ≤ z
      · by_cases c3 : z ≤ (80 : Int)
        · have HT : Hid (pubB ns = true) := by show _ = _; rw [HE.out]; simp [c2, c3]
          clear HE
          go_enter Tryz.func49, Tryz.ntmps49
          go_wp2_with fail
          refine Calls.mono HR.out ?_
          rintro e w1 ⟨rfl, rfl⟩
          clear HR
          go_wp2_with fail
          refine Calls.mono HD.out ?_
          rintro e w2 ⟨rfl, rfl⟩
          clear HD
          go_wp2_with fail
          refine Calls.mono HB.out ?_
          rintro e w3 ⟨rfl, rfl⟩
          go_wp2_with fail
          refine Calls.mono HB.out ?_
          rintro e w4 ⟨rfl, rfl⟩
          clear HB
          go_wp2
          go_ret
          exact ⟨ret_bool HT.out.symm, Below.refl _ _⟩
        · have HT : Hid (pubB ns = false) := by show _ = _; rw [HE.out]; simp [c3]
          have d3 : decide (z ≤ (80 : Int)) = false := decide_eq_false c3
          clear HE
          go_enter Tryz.func49, Tryz.ntmps49
          go_wp2_with fail
          refine Calls.mono HR.out ?_
          rintro e w1 ⟨rfl, rfl⟩
          clear HR
          go_wp2_with fail
          refine Calls.mono HD.out ?_
          rintro e w2 ⟨rfl, rfl⟩
          clear HD
          go_wp2_with fail
          refine Calls.mono HB.out ?_
          rintro e w3 ⟨rfl, rfl⟩
          go_wp2_with fail
          refine Calls.mono HB.out ?_
          rintro e w4 ⟨rfl, rfl⟩
          clear HB
          go_wp2
          go_ret
          exact ⟨ret_bool HT.out.symm, Below.refl _ _⟩
      · have HT : Hid (pubB ns = false) := by show _ = _; rw [HE.out]; simp [c2]
        have d2 : decide ((15 : Int) ≤ z) = false := decide_eq_false c2
        clear HE
        go_enter Tryz.func49, Tryz.ntmps49
        go_wp2_with fail
        refine Calls.mono HR.out ?_
        rintro e w1 ⟨rfl, rfl⟩
        clear HR
        go_wp2_with fail
        refine Calls.mono HD.out ?_
        rintro e w2 ⟨rfl, rfl⟩
        clear HD
        go_wp2_with fail
        refine Calls.mono HB.out ?_
        rintro e w3 ⟨rfl, rfl⟩
        clear HB
        go_wp2
        go_ret
        exact ⟨ret_bool HT.out.symm, Below.refl _ _⟩

/-- A number that may be, below a bound. -/
def lessB (cs : List Int) (b : Nat) : Bool := rightB cs && decide (nv cs < b)
theorem cmp_nv6 {xs ys : List Int} (hx : Digs 18446744073709551616 xs) (hy : Digs 18446744073709551616 ys) (rx : rightB xs = true) (ry : rightB ys = true) : cmpN xs ys = cmpZ (nv xs : Int) (nv ys : Int) := by
  unfold cmpN; rw [rx, ry, nv_val hx, nv_val hy]; rfl
theorem cmpZ_lt6 {x y : Nat} : cmpZ (x : Int) (y : Int) < 0 ↔ x < y := by
  unfold cmpZ
  split
  · constructor
    · intro _; omega
    · intro _; decide
  · split
    · constructor
      · intro h; omega
      · intro h; omega
    · constructor
      · intro h; omega
      · intro h; omega
theorem cmpZ_eq6 {x y : Nat} : cmpZ (x : Int) (y : Int) = 0 ↔ x = y := by
  unfold cmpZ
  split
  · constructor
    · intro h; cases h
    · intro h; omega
  · split
    · constructor
      · intro h; cases h
      · intro h; omega
    · constructor
      · intro _; omega
      · intro _; rfl

set_option maxRecDepth 20000 in
set_option maxHeartbeats 800000 in
theorem pbelow_any (a b : Option Addr) (la ca lb cb : Nat) (bs cs : List Int) (n : Nat) (w : World) (h : Nums w a la ca bs) (h' : Nums w b lb cb cs) (hn : IsN bs n) :
    Calls Tryz.prog 50 #[.slice a la ca, .slice b lb cb] w fun e w' => e = .returned (.bool (lessB cs n)) ∧ Below w.heap.size w w' := by
  have HR := (show Hid _ from right_any _ _ _ _ _ h')
  cases hr : rightB cs with
  | false =>
    rw [hr] at HR
    have HE : Hid (lessB cs n = false) := by show _ = _; simp [lessB, hr]
    clear h h'
    go_enter Tryz.func50, Tryz.ntmps50
    go_wp2_with fail
    refine Calls.mono HR.out ?_
    rintro e w1 ⟨rfl, rfl⟩
    clear HR
    go_wp2
    go_ret
    exact ⟨ret_bool HE.out.symm, Below.refl _ _⟩
  | true =>
    rw [hr] at HR
    have HC := (show Hid _ from cmp_any _ _ _ _ _ _ _ _ _ h' h)
    rw [cmp_nv6 h'.digs h.digs hr hn.2.1, hn.nv] at HC
    have HE : Hid (decide (cmpZ (nv cs : Int) (n : Int) < 0) = lessB cs n) := by
      show _ = _
      simp only [lessB, hr, Bool.true_and]
      rw [decide_eq_decide]
      exact cmpZ_lt6
    obtain ⟨q, hq⟩ : ∃ q, q = cmpZ (nv cs : Int) (n : Int) := ⟨_, rfl⟩
    rw [← hq] at HC HE
    clear h h' hq hn
    go_enter Tryz.func50, Tryz.ntmps50
    go_wp2_with fail
    refine Calls.mono HR.out ?_
    rintro e w1 ⟨rfl, rfl⟩
    clear HR
    go_wp2_with fail
    refine Calls.mono HC.out ?_
    rintro e w2 ⟨rfl, hb2⟩
    clear HC
    go_wp2
    go_ret
    exact ⟨ret_bool HE.out, hb2⟩

theorem sgcd_any (a b : Option Addr) (la ca lb cb : Nat) (xs ys : List Int) (x y : Nat) (w : World) (h : Nums w a la ca xs) (h' : Nums w b lb cb ys) (hx : IsN xs x) (hy : IsN ys y) :
    Calls Tryz.prog 13 #[.func (.func 67) #[] #[], .slice a la ca, .slice b lb cb] w fun e w' => NumT (Nat.gcd x y) w e w' := by
  refine sure_any _ (fun ls => IsN ls (Nat.gcd x y)) _ _ _ _ _ _ _ Tryz.call67 ?_
  refine (gcd_any _ _ _ _ _ _ _ _ _ h h').mono ?_
  rintro e w' ⟨a', n, c', ls, err, rfl, hL, hR, hb⟩
  unfold ResGcd at hR
  rw [hx.2.1, hy.2.1, if_pos (by rfl), hx.2.2, hy.2.2] at hR
  refine ⟨a', n, c', ls, err, rfl, hL, ⟨hR.2.1, hR.2.2.1, hR.2.2.2.trans ?_⟩, hb⟩
  unfold gz
  rw [Int.toNat_natCast, Int.toNat_natCast]

set_option maxRecDepth 20000 in
set_option maxHeartbeats 800000 in
theorem papart_any (a b : Option Addr) (la ca lb cb : Nat) (ns cs : List Int) (n c : Nat) (w : World) (h : Nums w a la ca ns) (h' : Nums w b lb cb cs) (hn : IsN ns n) (hc : IsN cs c) :
    Calls Tryz.prog 88 #[.slice a la ca, .slice b lb cb] w fun e w' => e = .returned (.bool (decide (Nat.gcd c n = 1))) ∧ Below w.heap.size w w' := by
  have HG := (show Hid _ from sgcd_any _ _ _ _ _ _ _ _ _ _ _ h' h hc hn)
  clear h h' hn hc
  go_enter Tryz.func88, Tryz.ntmps88
  go_wp2_with fail
  refine Calls.mono HG.out ?_
  rintro e w1 ⟨ga, gl, gc, gs, rfl, hG, hg, hb1⟩
  clear HG
  go_wp2_with fail
  refine (of_any 1 _ (by omega)).mono ?_
  rintro e w2 ⟨oa, ol, oc, rfl, hO, hb2⟩
  have hG2 := hG.below hb2
  have hB2 := hb1.trans (hb2.mono hb1.size)
  have HC := (show Hid _ from cmp_any _ _ _ _ _ _ _ _ _ hG2 hO)
  rw [cmp_nv6 hG2.digs hO.digs hg.2.1 isN_one6.2.1, hg.nv, isN_one6.nv] at HC
  have HZ : Hid ((cmpZ ((Nat.gcd c n : Nat) : Int) ((1 : Nat) : Int) == 0) = decide (Nat.gcd c n = 1)) := by
    show _ = _
    by_cases e : Nat.gcd c n = 1
    · rw [decide_eq_true e, cmpZ_eq6.2 e]; rfl
    · rw [decide_eq_false e]
      have : ¬ cmpZ ((Nat.gcd c n : Nat) : Int) ((1 : Nat) : Int) = 0 := fun h => e (cmpZ_eq6.1 h)
      simpa using this
  obtain ⟨q2, hq2⟩ : ∃ q2, q2 = cmpZ ((Nat.gcd c n : Nat) : Int) ((1 : Nat) : Int) := ⟨_, rfl⟩
  rw [← hq2] at HC HZ
  clear hG hG2 hO hb1 hb2 hg hq2
  go_wp2_with fail
  refine Calls.mono HC.out ?_
  rintro e w3 ⟨rfl, hb3⟩
  have hB3 := hB2.trans (hb3.mono hB2.size)
  clear HC hB2 hb3
  go_wp2
  go_ret
  exact ⟨ret_bool HZ.out, hB3⟩

theorem unit_of {cs ns : List Int} {n b : Nat} (hn : IsN ns n) (h2 : 2 ≤ n) (hl : lessB cs b = true) : unitB cs ns b = decide (Nat.gcd (nv cs) n = 1) := by
  unfold lessB at hl
  rw [Bool.and_eq_true, decide_eq_true_eq] at hl
  unfold unitB unitN
  rw [hl.1, hn.nv, decide_eq_true hl.2]
  rcases Nat.eq_zero_or_pos (nv cs) with e | e
  · have h0 : ¬ Nat.gcd (nv cs) n = 1 := by rw [e, Nat.gcd_zero_left]; omega
    rw [decide_eq_false h0]
    simp
  · rw [decide_eq_true e]; rfl
theorem unit_not {cs ns : List Int} {b : Nat} (hl : lessB cs b = false) : unitB cs ns b = false := by
  unfold lessB at hl
  unfold unitB unitN
  cases hr : rightB cs with
  | false => rfl
  | true =>
    rw [hr, Bool.true_and] at hl
    rw [hl]
    simp

set_option maxRecDepth 20000 in
set_option maxHeartbeats 800000 in
theorem phider_any (a b : Option Addr) (la ca lb cb : Nat) (ns cs : List Int) (n : Nat) (w : World) (h : Nums w a la ca ns) (h' : Nums w b lb cb cs) (hn : IsN ns n) (h2 : 2 ≤ n) :
    Calls Tryz.prog 52 #[.slice a la ca, .slice b lb cb] w fun e w' => e = .returned (.bool (unitB cs ns n)) ∧ Below w.heap.size w w' := by
  have HL := (show Hid _ from pbelow_any _ _ _ _ _ _ _ _ _ _ h h' hn)
  cases hl : lessB cs n with
  | false =>
    rw [hl] at HL
    have HE : Hid (unitB cs ns n = false) := unit_not hl
    clear h h' hn hl h2
    go_enter Tryz.func52, Tryz.ntmps52
    go_wp2_with fail
    refine Calls.mono HL.out ?_
    rintro e w1 ⟨rfl, hb1⟩
    clear HL
    go_wp2
    go_ret
    exact ⟨ret_bool HE.out.symm, hb1⟩
  | true =>
    rw [hl] at HL
    have HE : Hid (unitB cs ns n = decide (Nat.gcd (nv cs) n = 1)) := unit_of hn h2 hl
    have hc : IsN cs (nv cs) := IsN.self h'.digs (by unfold lessB at hl; rw [Bool.and_eq_true] at hl; exact hl.1)
    have HA : Hid (∀ wx, Nums wx a la ca ns → Nums wx b lb cb cs → Calls Tryz.prog 88 #[.slice a la ca, .slice b lb cb] wx fun e w' => e = .returned (.bool (unitB cs ns n)) ∧ Below wx.heap.size wx w') := fun wx k k' => by
      have := papart_any _ _ _ _ _ _ _ _ _ _ _ k k' hn hc
      rw [← HE.out] at this
      exact this
    clear hl hn hc h2 HE
    go_enter Tryz.func52, Tryz.ntmps52
    go_wp2_with fail
    refine Calls.mono HL.out ?_
    rintro e w1 ⟨rfl, hb1⟩
    have k := h.below hb1
    have k' := h'.below hb1
    clear HL h h'
    go_wp2_with fail
    refine (HA.out _ k k').mono ?_
    rintro e w2 ⟨rfl, hb2⟩
    have hB2 := hb1.trans (hb2.mono hb1.size)
    clear HA k k' hb1 hb2
    go_wp2
    go_ret
    exact ⟨rfl, hB2⟩

set_option maxRecDepth 20000 in
set_option maxHeartbeats 800000 in
theorem pcipher_any (a b : Option Addr) (la ca lb cb : Nat) (ns cs : List Int) (n : Nat) (w : World) (h : Nums w a la ca ns) (h' : Nums w b lb cb cs) (hn : IsN ns n) (h2 : 2 ≤ n) (hm : n < 1208925819614629174706176) :
    Calls Tryz.prog 56 #[.slice a la ca, .slice b lb cb] w fun e w' => e = .returned (.bool (unitB cs ns (n * n))) ∧ Below w.heap.size w w' := by
  have HS := (show Hid _ from psquare_any _ _ _ _ _ _ h hn hm)
  go_enter Tryz.func56, Tryz.ntmps56
  go_wp2_with fail
  refine Calls.mono HS.out ?_
  rintro e w1 ⟨sa, sl, sc, ss, rfl, hS, hs, hb1⟩
  have k := h.below hb1
  have k' := h'.below hb1
  clear HS h h'
  have HL := (show Hid _ from pbelow_any _ _ _ _ _ _ _ _ _ _ hS k' hs)
  cases hl : lessB cs (n * n) with
  | false =>
    rw [hl] at HL
    have HE : Hid (unitB cs ns (n * n) = false) := unit_not hl
    clear k k' hS hs hn hl h2
    go_wp2_with fail
    refine Calls.mono HL.out ?_
    rintro e w2 ⟨rfl, hb2⟩
    have hB2 := hb1.trans (hb2.mono hb1.size)
    clear HL hb1 hb2
    go_wp2
    go_ret
    exact ⟨ret_bool HE.out.symm, hB2⟩
  | true =>
    rw [hl] at HL
    have HE : Hid (unitB cs ns (n * n) = decide (Nat.gcd (nv cs) n = 1)) := unit_of hn h2 hl
    have hc : IsN cs (nv cs) := IsN.self k'.digs (by unfold lessB at hl; rw [Bool.and_eq_true] at hl; exact hl.1)
    have HA : Hid (∀ wx, Nums wx a la ca ns → Nums wx b lb cb cs → Calls Tryz.prog 88 #[.slice a la ca, .slice b lb cb] wx fun e w' => e = .returned (.bool (unitB cs ns (n * n))) ∧ Below wx.heap.size wx w') := fun wx k k' => by
      have := papart_any _ _ _ _ _ _ _ _ _ _ _ k k' hn hc
      rw [← HE.out] at this
      exact this
    clear hl hn hc h2 HE hS hs
    go_wp2_with fail
    refine Calls.mono HL.out ?_
    rintro e w2 ⟨rfl, hb2⟩
    have hB2 := hb1.trans (hb2.mono hb1.size)
    have m := k.below hb2
    have m' := k'.below hb2
    clear HL k k' hb1 hb2
    go_wp2_with fail
    refine (HA.out _ m m').mono ?_
    rintro e w3 ⟨rfl, hb3⟩
    have hB3 := hB2.trans (hb3.mono hB2.size)
    clear HA m m' hB2 hb3
    go_wp2
    go_ret
    exact ⟨rfl, hB3⟩
end Go.Proofs.YtambpcgdaogojabGreat

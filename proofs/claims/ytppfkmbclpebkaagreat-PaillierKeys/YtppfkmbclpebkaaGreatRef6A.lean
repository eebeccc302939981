/-
  Contracts of the document's May, unit, Square, Valid, plain, shown and hidden.
-/
import Derived.Test.YtppfkmbclpebkaaGreatP6Ans
import Derived.Test.YtppfkmbclpebkaaGreatRefGcd
import Derived.Test.YtppfkmbclpebkaaGreatMPower
import Derived.Test.YtppfkmbclpebkaaGreatRefA
import Derived.Test.YtppfkmbclpebkaaGreatNatA
namespace Go.Proofs.YtppfkmbclpebkaaGreat
open Go.RowKit

set_option maxHeartbeats 1600000 in
theorem r6may_any (a : Option Addr) (la ca : Nat) (ns : List Int) (w : World) (h : Nums w a la ca ns) :
    Calls Tryz.prog 14 #[.slice a la ca] w fun e w' => e = .returned (.bool (pubB ns)) ∧ w' = w := by
  have hl := h.hlen
  have HR := (show Hid _ from refRight_any _ _ _ _ _ h)
  have HB := (show Hid _ from refBits_any _ _ _ _ _ h)
  obtain ⟨z, hz⟩ : ∃ z, z = bitsZ ns := ⟨_, rfl⟩
  rw [← hz] at HB
  cases hr : rightB ns with
  | false =>
    rw [hr] at HR
    have HE : Hid (pubB ns = false) := by show _ = _; simp [pubB, hr]
    clear h hz
    go_enter Tryz.func14, Tryz.ntmps14
    go_wp2_with fail
    refine Calls.mono HR.out ?_
    rintro e w1 ⟨rfl, rfl⟩
    go_wp2_with fail
    refine Calls.mono HB.out ?_
    rintro e w2 ⟨rfl, rfl⟩
    clear HR HB
    go_wp2
    go_ret
    exact ⟨ret_bool HE.out.symm, rfl⟩
  | true =>
    rw [hr] at HR
    by_cases h0 : la = 0
    · subst h0
      have HE : Hid (pubB ns = false) := by
        show _ = _
        have := List.eq_nil_of_length_eq_zero hl
        subst this
        decide
      clear h hz
      go_enter Tryz.func14, Tryz.ntmps14
      go_wp2_with fail
      refine Calls.mono HR.out ?_
      rintro e w1 ⟨rfl, rfl⟩
      go_wp2_with fail
      refine Calls.mono HB.out ?_
      rintro e w2 ⟨rfl, rfl⟩
      clear HR HB
      go_wp2
      go_ret
      exact ⟨ret_bool HE.out.symm, rfl⟩
    obtain ⟨b, off, rfl, hc⟩ := h.cells (by omega)
    have hcell := hc 0 (by omega)
    have hodd := nv_odd h.digs
    obtain ⟨x, hx⟩ : ∃ x, x = ns.getD 0 0 := ⟨_, rfl⟩
    have hxw := h.digs.getD (by decide) 0
    rw [← hx] at hcell hodd hxw
    rw [Nat.add_zero] at hcell
    have h15 := bits_15 h.digs hr
    have h80 := bits_80 h.digs hr
    rw [← hz] at h15 h80
    have hcm := h.hmax
    have hcc := h.hcap
    unfold maxLen at hcm
    have HE : Hid (pubB ns = (x % 2 == 1 && (decide ((15 : Int) ≤ z) && decide (z ≤ (80 : Int))))) := by
      show _ = _
      have e1 : (x % 2 == 1) = decide (nv ns % 2 = 1) := by
        rw [hodd]
        by_cases e : nv ns % 2 = 1
        · rw [e]; decide
        · have : nv ns % 2 = 0 := by omega
          rw [this]; decide
      have e2 : decide ((15 : Int) ≤ z) = decide (16384 ≤ nv ns) := by rw [decide_eq_decide]; exact h15
      have e3 : decide (z ≤ (80 : Int)) = decide (nv ns < 1208925819614629174706176) := by rw [decide_eq_decide]; exact h80
      rw [e1, e2, e3]
      simp [pubB, mayN, hr]
    have hlp : (0 : Int) < (la : Int) := by omega
    clear h hc hz hx hodd h15 h80
    by_cases c1 : x % 2 = 1
    · by_cases c2 : (15 : Int) ≤ z
      · by_cases c3 : z ≤ (80 : Int)
        · have HT : Hid (pubB ns = true) := by show _ = _; rw [HE.out]; simp [c1, c2, c3]
          clear HE
          go_enter Tryz.func14, Tryz.ntmps14
          go_wp2_with fail
          refine Calls.mono HR.out ?_
          rintro e w1 ⟨rfl, rfl⟩
          go_wp2_with fail
          refine Calls.mono HB.out ?_
          rintro e w2 ⟨rfl, rfl⟩
          clear HR HB
          go_wp2
          go_ret
          exact ⟨ret_bool HT.out.symm, rfl⟩
        · have HT : Hid (pubB ns = false) := by show _ = _; rw [HE.out]; simp [c3]
          have d3 : decide (z ≤ (80 : Int)) = false := decide_eq_false c3
          clear HE
          go_enter Tryz.func14, Tryz.ntmps14
          go_wp2_with fail
          refine Calls.mono HR.out ?_
          rintro e w1 ⟨rfl, rfl⟩
          go_wp2_with fail
          refine Calls.mono HB.out ?_
          rintro e w2 ⟨rfl, rfl⟩
          clear HR HB
          go_wp2
          go_ret
          exact ⟨ret_bool HT.out.symm, rfl⟩
      · have HT : Hid (pubB ns = false) := by show _ = _; rw [HE.out]; simp [c2]
        have d2 : decide ((15 : Int) ≤ z) = false := decide_eq_false c2
        clear HE
        go_enter Tryz.func14, Tryz.ntmps14
        go_wp2_with fail
        refine Calls.mono HR.out ?_
        rintro e w1 ⟨rfl, rfl⟩
        go_wp2_with fail
        refine Calls.mono HB.out ?_
        rintro e w2 ⟨rfl, rfl⟩
        clear HR HB
        go_wp2
        go_ret
        exact ⟨ret_bool HT.out.symm, rfl⟩
    · have HT : Hid (pubB ns = false) := by show _ = _; rw [HE.out]; simp [c1]
      have d1 : (x % 2 == 1) = false := by simp [c1]
      clear HE
      go_enter Tryz.func14, Tryz.ntmps14
      go_wp2_with fail
      refine Calls.mono HR.out ?_
      rintro e w1 ⟨rfl, rfl⟩
      go_wp2_with fail
      refine Calls.mono HB.out ?_
      rintro e w2 ⟨rfl, rfl⟩
      clear HR HB
      go_wp2
      go_ret
      exact ⟨ret_bool HT.out.symm, rfl⟩
theorem cmp_nv {xs ys : List Int} (hx : Digs 18446744073709551616 xs) (hy : Digs 18446744073709551616 ys) (rx : rightB xs = true) (ry : rightB ys = true) : cmpN xs ys = cmpZ (nv xs : Int) (nv ys : Int) := by
  unfold cmpN; rw [rx, ry, nv_val hx, nv_val hy]; rfl
theorem cmpZ_ge {x y : Nat} : (0 : Int) ≤ cmpZ (x : Int) (y : Int) ↔ y ≤ x := by
  unfold cmpZ
  split
  · constructor
    · intro h; omega
    · intro h; omega
  · split
    · constructor
      · intro _; omega
      · intro _; decide
    · constructor
      · intro _; omega
      · intro _; decide
theorem cmpZ_nought {x y : Nat} : cmpZ (x : Int) (y : Int) = 0 ↔ x = y := by
  unfold cmpZ
  split
  · constructor
    · intro h; cases h
    · intro h; omega
  · split
    · constructor
      · intro h; cases h
      · intro h; omega
    · constructor
      · intro _; omega
      · intro _; rfl
theorem isN_one : IsN (ofZ 1) 1 := ⟨fun y hy => by simp [ofZ] at hy; subst hy; decide, by decide, by decide⟩

set_option maxHeartbeats 1600000 in
theorem r6unit_any (a b d : Option Addr) (la ca lb cb ld cd : Nat) (cs ns bs : List Int) (w : World) (h : Nums w a la ca cs) (h' : Nums w b lb cb ns) (hd : Nums w d ld cd bs) (rn : rightB ns = true) (pn : 0 < ns.length) (rb : rightB bs = true) :
    Calls Tryz.prog 48 #[.slice a la ca, .slice b lb cb, .slice d ld cd] w fun e w' => e = .returned (.bool (unitB cs ns (nv bs))) ∧ Below w.heap.size w w' := by
  have hl := h.hlen
  have HR := (show Hid _ from refRight_any _ _ _ _ _ h)
  cases hr : rightB cs with
  | false =>
    rw [hr] at HR
    have HE : Hid (unitB cs ns (nv bs) = false) := by show _ = _; simp [unitB, hr]
    clear h h' hd
    go_enter Tryz.func48, Tryz.ntmps48
    go_wp2_with fail
    refine Calls.mono HR.out ?_
    rintro e w1 ⟨rfl, rfl⟩
    clear HR
    go_wp2
    go_ret
    exact ⟨ret_bool HE.out.symm, Below.refl _ _⟩
  | true =>
    rw [hr] at HR
    by_cases h0 : la = 0
    · subst h0
      have HE : Hid (unitB cs ns (nv bs) = false) := by
        show _ = _
        have := List.eq_nil_of_length_eq_zero hl
        subst this
        simp [unitB, unitN, nv, val]
      clear h h' hd
      go_enter Tryz.func48, Tryz.ntmps48
      go_wp2_with fail
      refine Calls.mono HR.out ?_
      rintro e w1 ⟨rfl, rfl⟩
      clear HR
      go_wp2
      go_ret
      exact ⟨ret_bool HE.out.symm, Below.refl _ _⟩
    have hlz : ((la : Int) == 0) = false := by simp; omega
    have hpos : 0 < nv cs := by
      rcases Nat.eq_zero_or_pos (nv cs) with e | e
      · have := (IsN.self h.digs hr).unique (ks := []) ⟨Digs.nil _, rfl, by rw [e]; simp [val]⟩
        rw [this] at hl
        simp at hl
        omega
      · exact e
    have HC := (show Hid _ from refCmp_any _ _ _ _ _ _ _ _ _ h hd)
    rw [cmp_nv h.digs hd.digs hr rb] at HC
    by_cases c1 : nv bs ≤ nv cs
    · have c1' := cmpZ_ge.2 c1
      have HE : Hid (unitB cs ns (nv bs) = false) := by show _ = _; simp [unitB, unitN]; intros; omega
      obtain ⟨q, hq⟩ : ∃ q, q = cmpZ (nv cs : Int) (nv bs : Int) := ⟨_, rfl⟩
      rw [← hq] at c1' HC
      clear h h' hd hq c1
      go_enter Tryz.func48, Tryz.ntmps48
      go_wp2_with fail
      refine Calls.mono HR.out ?_
      rintro e w1 ⟨rfl, rfl⟩
      clear HR
      go_wp2_with fail
      refine Calls.mono HC.out ?_
      rintro e w2 ⟨rfl, hb2⟩
      clear HC
      go_wp2
      go_ret
      exact ⟨ret_bool HE.out.symm, hb2⟩
    · have c1' : decide ((0 : Int) ≤ cmpZ (nv cs : Int) (nv bs : Int)) = false := decide_eq_false (fun e => c1 (cmpZ_ge.1 e))
      obtain ⟨q, hq⟩ : ∃ q, q = cmpZ (nv cs : Int) (nv bs : Int) := ⟨_, rfl⟩
      rw [← hq] at c1' HC
      have hca := nums_some h (by omega)
      have hcb := nums_some h' pn
      have HE : Hid (unitB cs ns (nv bs) = decide (Nat.gcd (nv cs) (nv ns) = 1)) := by
        show _ = _
        simp only [unitB, unitN, hr, Bool.true_and]
        rw [decide_eq_true hpos, decide_eq_true (show nv cs < nv bs by omega)]
        rfl
      have vc := nv_val h.digs
      have vn := nv_val h'.digs
      clear hd hq c1
      go_enter Tryz.func48, Tryz.ntmps48
      go_wp2_with fail
      refine Calls.mono HR.out ?_
      rintro e w1 ⟨rfl, rfl⟩
      clear HR
      go_wp2_with fail
      refine Calls.mono HC.out ?_
      rintro e w2 ⟨rfl, hb2⟩
      have h2 := h.below hb2
      have h2' := h'.below hb2
      clear HC h h'
      go_wp2_with fail
      refine (refGcd_any _ _ _ _ _ _ _ _ _ h2 h2' hca hcb).mono ?_
      rintro e w3 ⟨ga, gl, gc, gs, ge, rfl, hG, hRes, hb3⟩
      have hB3 := hb2.trans (hb3.mono hb2.size)
      have hgn : IsN gs (Nat.gcd (nv cs) (nv ns)) := by
        unfold ResGcd at hRes
        rw [hr, rn, if_pos (by rfl), vc, vn] at hRes
        refine ⟨hRes.2.1, hRes.2.2.1, hRes.2.2.2.trans ?_⟩
        unfold gz
        rw [Int.toNat_natCast, Int.toNat_natCast]
      clear h2 h2' hb2 hb3 hRes vc vn
      go_wp2_with fail
      refine (refOf_any 1 _ (by omega)).mono ?_
      rintro e w4 ⟨oa, ol, oc, rfl, hO, hb4⟩
      have hG4 := hG.below hb4
      have hB4 := hB3.trans (hb4.mono hB3.size)
      have HC2 := (show Hid _ from refCmp_any _ _ _ _ _ _ _ _ _ hG4 hO)
      rw [cmp_nv hG4.digs hO.digs hgn.2.1 isN_one.2.1, hgn.nv, isN_one.nv] at HC2
      have HZ : Hid ((cmpZ ((Nat.gcd (nv cs) (nv ns) : Nat) : Int) ((1 : Nat) : Int) == 0) = unitB cs ns (nv bs)) := by
        show _ = _
        rw [HE.out]
        by_cases e : Nat.gcd (nv cs) (nv ns) = 1
        · rw [decide_eq_true e, cmpZ_nought.2 e]; rfl
        · rw [decide_eq_false e]
          have : ¬ cmpZ ((Nat.gcd (nv cs) (nv ns) : Nat) : Int) ((1 : Nat) : Int) = 0 := fun h => e (cmpZ_nought.1 h)
          simpa using this
      obtain ⟨q2, hq2⟩ : ∃ q2, q2 = cmpZ ((Nat.gcd (nv cs) (nv ns) : Nat) : Int) ((1 : Nat) : Int) := ⟨_, rfl⟩
      rw [← hq2] at HC2 HZ
      clear hG hG4 hO hB3 hb4 hgn HE hq2
      go_wp2_with fail
      refine Calls.mono HC2.out ?_
      rintro e w5 ⟨rfl, hb5⟩
      have hB5 := hB4.trans (hb5.mono hB4.size)
      clear HC2 hB4 hb5
      go_wp2
      go_ret
      exact ⟨ret_bool HZ.out, hB5⟩
set_option maxHeartbeats 800000 in
theorem r6square_any (a : Option Addr) (la ca : Nat) (ns : List Int) (n : Nat) (w : World) (h : Nums w a la ca ns) (hn : IsN ns n) (hb : n < 1208925819614629174706176) :
    Calls Tryz.prog 49 #[.slice a la ca] w fun e w' => ∃ a' l c ls, e = .returned (.slice a' l c) ∧ Nums w' a' l c ls ∧ IsN ls (n * n) ∧ Below w.heap.size w w' := by
  have hlt : ((n * n : Nat) : Int) < 18446744073709551616 ^ 64 := by
    have h1 := sq_bd3 hb
    have h2 : (18446744073709551616 : Int) ^ 3 ≤ 18446744073709551616 ^ 64 := by decide
    omega
  go_enter Tryz.func49, Tryz.ntmps49
  go_wp2_with fail
  refine (refMul_any _ _ _ _ _ _ _ _ _ h h).mono ?_
  rintro e w1 ⟨a', l, c, ls, err, rfl, hL, hR, hb1⟩
  have hr := hR.got hn.2.1 hn.2.1
  rw [hn.2.2, ← Int.natCast_mul] at hr
  have HN : Hid (IsN ls (n * n)) := (IsN.res hr hlt).1
  clear hR hr hlt
  go_wp2
  go_ret
  exact ⟨a', l, c, ls, rfl, hL, HN.out, hb1⟩
set_option maxHeartbeats 800000 in
theorem r6valid_any (a b : Option Addr) (la ca lb cb : Nat) (ns cs : List Int) (w : World) (h : Nums w a la ca ns) (h' : Nums w b lb cb cs) :
    Calls Tryz.prog 16 #[.slice a la ca, .slice b lb cb] w fun e w' => e = .returned (.bool (validB ns cs)) ∧ Below w.heap.size w w' := by
  have HM := (show Hid _ from r6may_any _ _ _ _ _ h)
  cases hm : pubB ns with
  | false =>
    rw [hm] at HM
    have HE : Hid (validB ns cs = false) := by show _ = _; simp [validB, hm]
    clear h h'
    go_enter Tryz.func16, Tryz.ntmps16
    go_wp2_with fail
    refine Calls.mono HM.out ?_
    rintro e w1 ⟨rfl, rfl⟩
    clear HM
    go_wp2
    go_ret
    exact ⟨ret_bool HE.out.symm, Below.refl _ _⟩
  | true =>
    rw [hm] at HM
    obtain ⟨rn, n1, n2, n3⟩ := (pubB_iff ns).1 hm
    have hn := IsN.self h.digs rn
    have pn := hn.pos (by omega)
    have HE : Hid (unitB cs ns (nv ns * nv ns) = validB ns cs) := by show _ = _; simp [validB, hm]
    go_enter Tryz.func16, Tryz.ntmps16
    go_wp2_with fail
    refine Calls.mono HM.out ?_
    rintro e w1 ⟨rfl, rfl⟩
    clear HM
    go_wp2_with fail
    refine (r6square_any _ _ _ _ _ _ h hn n3).mono ?_
    rintro e w2 ⟨sa, sl, sc, ss, rfl, hS, hs, hb2⟩
    have h2 := h.below hb2
    have h2' := h'.below hb2
    have HU := (show Hid _ from r6unit_any _ _ _ _ _ _ _ _ _ _ _ _ _ h2' h2 hS rn pn hs.2.1)
    rw [hs.nv, HE.out] at HU
    clear h h' h2 h2' hS hs hn HE
    go_wp2_with fail
    refine Calls.mono HU.out ?_
    rintro e w3 ⟨rfl, hb3⟩
    have hB3 := hb2.trans (hb3.mono hb2.size)
    clear HU hb2 hb3
    go_wp2
    go_ret
    exact ⟨rfl, hB3⟩
set_option maxHeartbeats 800000 in
theorem r6plain_any (a b : Option Addr) (la ca lb cb : Nat) (ns ms : List Int) (w : World) (h : Nums w a la ca ns) (h' : Nums w b lb cb ms) (rn : rightB ns = true) :
    Calls Tryz.prog 53 #[.slice a la ca, .slice b lb cb] w fun e w' => e = .returned (.bool (plainB ns ms)) ∧ Below w.heap.size w w' := by
  have HR := (show Hid _ from refRight_any _ _ _ _ _ h')
  cases hr : rightB ms with
  | false =>
    rw [hr] at HR
    have HE : Hid (plainB ns ms = false) := by show _ = _; simp [plainB, hr]
    clear h h'
    go_enter Tryz.func53, Tryz.ntmps53
    go_wp2_with fail
    refine Calls.mono HR.out ?_
    rintro e w1 ⟨rfl, rfl⟩
    clear HR
    go_wp2
    go_ret
    exact ⟨ret_bool HE.out.symm, Below.refl _ _⟩
  | true =>
    rw [hr] at HR
    have HC := (show Hid _ from refCmp_any _ _ _ _ _ _ _ _ _ h' h)
    rw [cmp_nv h'.digs h.digs hr rn] at HC
    have HE : Hid (decide (cmpZ (nv ms : Int) (nv ns : Int) < 0) = plainB ns ms) := by
      show _ = _
      simp only [plainB, hr, Bool.true_and]
      rw [decide_eq_decide]
      have := cmpZ_ge (x := nv ms) (y := nv ns)
      omega
    obtain ⟨q, hq⟩ : ∃ q, q = cmpZ (nv ms : Int) (nv ns : Int) := ⟨_, rfl⟩
    rw [← hq] at HC HE
    clear h h' hq
    go_enter Tryz.func53, Tryz.ntmps53
    go_wp2_with fail
    refine Calls.mono HR.out ?_
    rintro e w1 ⟨rfl, rfl⟩
    clear HR
    go_wp2_with fail
    refine Calls.mono HC.out ?_
    rintro e w2 ⟨rfl, hb2⟩
    clear HC
    go_wp2
    go_ret
    exact ⟨ret_bool HE.out, hb2⟩
theorem shown_bd {n m : Nat} (hm : m < n) : 1 + n * m < n * n ∨ n = 1 := by
  rcases Nat.lt_or_ge n 2 with h | h
  · exact .inr (by omega)
  · left
    have h1 := Nat.mul_le_mul (Nat.le_refl n) (show m + 1 ≤ n by omega)
    rw [Nat.mul_add, Nat.mul_one] at h1
    omega

set_option maxHeartbeats 1600000 in
theorem r6shown_any (a b : Option Addr) (la ca lb cb : Nat) (ns ms : List Int) (n m : Nat) (w : World) (h : Nums w a la ca ns) (h' : Nums w b lb cb ms) (hn : IsN ns n) (hm : IsN ms m) (hb : n < 1208925819614629174706176) (hmn : m < n) :
    Calls Tryz.prog 59 #[.slice a la ca, .slice b lb cb] w fun e w' => ∃ a' l c ls, e = .returned (.slice a' l c) ∧ Nums w' a' l c ls ∧ IsN ls (1 + n * m) ∧ Below w.heap.size w w' := by
  have hle : m * n ≤ n * n := Nat.mul_le_mul (by omega) (Nat.le_refl n)
  have h1 := sq_bd3 hb
  have h2 : (18446744073709551616 : Int) ^ 3 + 1 ≤ 18446744073709551616 ^ 64 := by decide
  have hl1 : ((m * n : Nat) : Int) < 18446744073709551616 ^ 64 := by omega
  have hl2 : ((1 + n * m : Nat) : Int) < 18446744073709551616 ^ 64 := by rw [Nat.mul_comm]; omega
  have HL : Hid (((m * n : Nat) : Int) < 18446744073709551616 ^ 64 ∧ ((1 + n * m : Nat) : Int) < 18446744073709551616 ^ 64) := ⟨hl1, hl2⟩
  clear hle h1 h2 hl1 hl2
  go_enter Tryz.func59, Tryz.ntmps59
  go_wp2_with fail
  refine (refMul_any _ _ _ _ _ _ _ _ _ h' h).mono ?_
  rintro e w1 ⟨pa, pl, pc, ps, pe, rfl, hP, hR, hb1⟩
  have hr := hR.got hm.2.1 hn.2.1
  rw [hn.2.2, hm.2.2, ← Int.natCast_mul] at hr
  have hp := (IsN.res hr HL.out.1).1
  clear hR hr h h'
  go_wp2_with fail
  refine (refOf_any 1 _ (by omega)).mono ?_
  rintro e w2 ⟨oa, ol, oc, rfl, hO, hb2⟩
  have hP2 := hP.below hb2
  have hB2 := hb1.trans (hb2.mono hb1.size)
  clear hP hb1 hb2
  go_wp2_with fail
  refine (refAdd_any _ _ _ _ _ _ _ _ _ hP2 hO).mono ?_
  rintro e w3 ⟨sa, sl, sc, ss, se, rfl, hS, hR, hb3⟩
  have hr := hR.got hp.2.1 isN_one.2.1
  rw [hp.2.2, isN_one.2.2, ← Int.natCast_add, show m * n + 1 = 1 + n * m by rw [Nat.mul_comm]; omega] at hr
  have HN : Hid (IsN ss (1 + n * m)) := (IsN.res hr HL.out.2).1
  have hB3 := hB2.trans (hb3.mono hB2.size)
  clear hR hr hp hP2 hO hB2 hb3 HL
  go_wp2
  go_ret
  exact ⟨sa, sl, sc, ss, rfl, hS, HN.out, hB3⟩
set_option maxHeartbeats 1600000 in
theorem r6hidden_any (a b : Option Addr) (la ca lb cb : Nat) (ns rs : List Int) (n r : Nat) (w : World) (h : Nums w a la ca ns) (h' : Nums w b lb cb rs) (hn : IsN ns n) (hr : IsN rs r) (hm : mayN n = true) (hrn : r < n) :
    Calls Tryz.prog 64 #[.slice a la ca, .slice b lb cb] w fun e w' => ∃ a' l c ls, e = .returned (.slice a' l c) ∧ Nums w' a' l c ls ∧ IsN ls (r ^ n % (n * n)) ∧ Below w.heap.size w w' := by
  obtain ⟨n1, n2, n3⟩ := (mayN_iff n).1 hm
  have hln : ns.length ≤ 2 := hn.len (by
    have e : (18446744073709551616 : Int) ^ 2 = 340282366920938463463374607431768211456 := by decide
    omega)
  have hll := h.hlen
  have hsq : r < n * n := Nat.lt_of_lt_of_le hrn (Nat.le_mul_of_pos_left n (by omega))
  go_enter Tryz.func64, Tryz.ntmps64
  go_wp2_with fail
  refine (r6square_any _ _ _ _ _ _ h hn n3).mono ?_
  rintro e w1 ⟨sa, sl, sc, ss, rfl, hS, hs, hb1⟩
  have h1 := h.below hb1
  have h1' := h'.below hb1
  have HP := (show Hid _ from power2_any _ _ _ _ _ _ _ _ _ _ _ _ n _ h1' h1 hS (sq_mod hm hs) (below_mk hr.2.1 (by rw [hr.2.2, hs.2.2]; omega)) hn.2.1 (by omega) hn.2.2)
  rw [hr.2.2, hs.2.2] at HP
  clear h h' h1 h1' hS
  go_wp2_with fail
  refine Calls.mono HP.out ?_
  rintro e w2 ⟨pa, pl, pc, ps, rfl, hP, pb, pv, hb2⟩
  have HN : Hid (IsN ps (r ^ n % (n * n))) := ⟨hP.digs, (below_parts pb).1, by rw [pv, ← Int.natCast_pow, ← Int.natCast_emod]⟩
  have hB2 := hb1.trans (hb2.mono hb1.size)
  clear HP pb pv hb1 hb2 hs
  go_wp2
  go_ret
  exact ⟨pa, pl, pc, ps, rfl, hP, HN.out, hB2⟩
end Go.Proofs.YtppfkmbclpebkaaGreat

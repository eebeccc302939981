/-
  Contracts of the document's compare and of nat.Cmp: they compare the values.
-/
import Derived.Test.YtaipkganijofjabCut
namespace Go.Proofs.Ytaipkganijofjab
open Go.RowKit

theorem cmpZ_lt {x y : Int} (h : x < y) : cmpZ x y = -1 := by simp [cmpZ, h]
theorem cmpZ_gt {x y : Int} (h : y < x) : cmpZ x y = 1 := by simp [cmpZ, h, show ¬ x < y by omega]
theorem cmpZ_eq (x : Int) : cmpZ x x = 0 := by simp [cmpZ]

theorem eq_of_all {zs ys : List Int} (hl : zs.length = ys.length) (h : ∀ j, 0 ≤ j → j < zs.length → zs.getD j 0 = ys.getD j 0) : zs = ys := by
  have := drop_eq_of (i := 0) hl h
  simpa using this

set_option maxHeartbeats 800000 in
theorem compare_any (B : Int) (hB : 0 < B) (a b : Option Addr) (la ca lb cb : Nat) (zs ys : List Int) (w : World) (h : Nums w a la ca zs) (h' : Nums w b lb cb ys)
    (dz : Digs B zs) (dy : Digs B ys) (tz : Top zs) (ty : Top ys) :
    Calls Try.prog 47 #[.slice a la ca, .slice b lb cb] w fun e w' => e = .returned (.int .i64 (cmpZ (val B zs) (val B ys))) ∧ Below w.heap.size w w' := by
  have hl := h.hlen
  have hl' := h'.hlen
  have hm := h.hmax
  have hcp := h.hcap
  unfold maxLen at hm
  by_cases hlen : la = lb
  · subst hlen
    have HL : Hid (zs.length = la ∧ ys.length = la) := ⟨hl, hl'⟩
    have hne : ((la : Int) != (la : Int)) = false := by simp
    by_cases h0 : la = 0
    · have e : cmpZ (val B zs) (val B ys) = 0 := by
        have e1 : zs = [] := List.eq_nil_of_length_eq_zero (by omega)
        have e2 : ys = [] := List.eq_nil_of_length_eq_zero (by omega)
        rw [e1, e2]; exact cmpZ_eq _
      rw [e]
      subst h0
      go_enter Try.func47, Try.ntmps47
      go_wp2
      go_loopw [5] (fun i wr => i = .int .i64 (-1) ∧ wr = w) (fun _ _ => 0)
      case atStart => exact ⟨rfl, rfl⟩
      case round =>
        obtain ⟨rfl, rfl⟩ := hrel
        go_wp2
        go_ret
        exact ⟨rfl, Below.refl _ _⟩
    · obtain ⟨b1, o1, rfl, hc⟩ := h.cells (by omega)
      obtain ⟨b2, o2, rfl, hc'⟩ := h'.cells (by omega)
      have hlt1 := World.block_lt_of_cell? w _ (hc 0 (by omega))
      have hlt2 := World.block_lt_of_cell? w _ (hc' 0 (by omega))
      clear hl hl' h h'
      go_enter Try.func47, Try.ntmps47
      go_wp2
      go_loopw [5] (fun i wr => ∃ k : Nat, k ≤ la ∧ i = .int .i64 ((k : Int) - 1) ∧ (∀ j, k ≤ j → j < la → zs.getD j 0 = ys.getD j 0) ∧ Below w.heap.size w wr) (fun i _ => (intOf i + 1).toNat)
      case atStart => exact ⟨la, Nat.le_refl _, rfl, fun j h1 h2 => by omega, Below.refl _ _⟩
      case round =>
        obtain ⟨k, hk, rfl, heq, hb⟩ := hrel
        have HE : Hid (∀ j, k ≤ j → j < la → zs.getD j 0 = ys.getD j 0) := heq
        clear heq
        by_cases hk0 : k = 0
        · subst hk0
          go_wp2
          go_ret
          refine ⟨ret_int ?_, hb⟩
          rw [eq_of_all (HL.out.1.trans HL.out.2.symm) (fun j h1 h2 => HE.out j h1 (by have := HL.out.1; omega)), cmpZ_eq]
        · have hge : 0 ≤ ((k : Int) - 1) := by omega
          have hlti : ((k : Int) - 1) < (la : Int) := by omega
          obtain ⟨x, hx⟩ : ∃ x, x = zs.getD (k - 1) 0 := ⟨_, rfl⟩
          obtain ⟨y, hy⟩ : ∃ y, y = ys.getD (k - 1) 0 := ⟨_, rfl⟩
          have c1 : wr.cell? ⟨b1, o1 + (k - 1), none⟩ = some (.int .u64 x) := by rw [hx]; exact (hb.cell (p := ⟨b1, o1 + (k - 1), none⟩) hlt1).trans (hc (k - 1) (by omega))
          have c2 : wr.cell? ⟨b2, o2 + (k - 1), none⟩ = some (.int .u64 y) := by rw [hy]; exact (hb.cell (p := ⟨b2, o2 + (k - 1), none⟩) hlt2).trans (hc' (k - 1) (by omega))
          have HX : Hid (x = zs.getD (k - 1) 0 ∧ y = ys.getD (k - 1) 0) := ⟨hx, hy⟩
          clear hx hy
          have hup : ∀ j, k - 1 < j → j < zs.length → zs.getD j 0 = ys.getD j 0 := fun j h1 h2 => HE.out j (by omega) (by have := HL.out.1; omega)
          have HU : Hid (∀ j, k - 1 < j → j < zs.length → zs.getD j 0 = ys.getD j 0) := hup
          clear hup
          by_cases hxy : x < y
          · go_wp2
            go_quiet (fail)
            go_wp2
            go_ret
            refine ⟨ret_int (cmpZ_lt ?_).symm, below_drewN hb _⟩
            exact cmp_at hB (HL.out.1.trans HL.out.2.symm) dz dy (by have := HL.out.1; omega) HU.out (by rw [← HX.out.1, ← HX.out.2]; exact hxy)
          · by_cases hyx : y < x
            · go_wp2
              go_quiet (fail)
              go_wp2
              go_quiet (fail)
              go_wp2
              go_ret
              refine ⟨ret_int (cmpZ_gt ?_).symm, below_drewN (below_drewN hb _) _⟩
              exact cmp_at hB (HL.out.2.trans HL.out.1.symm) dy dz (by have := HL.out.2; omega) (fun j h1 h2 => (HU.out j h1 (by have := HL.out; omega)).symm) (by rw [← HX.out.1, ← HX.out.2]; exact hyx)
            · obtain rfl : x = y := by omega
              go_wp2
              go_quiet (fail)
              go_wp2
              go_quiet (fail)
              go_wp2
              go_roundw
              case rel =>
                refine ⟨k - 1, by omega, by go_num, fun j h1 h2 => ?_, below_drewN hb _⟩
                by_cases hj : k ≤ j
                · exact HE.out j hj h2
                · obtain rfl : j = k - 1 := by omega
                  exact HX.out.1.symm.trans HX.out.2
              case measure => simp [intOf]; omega
  · have hne : ((la : Int) != (lb : Int)) = true := by simp; omega
    by_cases hlt : la < lb
    · rw [cmpZ_lt (val_lt_of_len hB dz dy ty (by omega))]
      go_enter Try.func47, Try.ntmps47
      go_wp2
      go_ret
      exact ⟨rfl, Below.refl _ _⟩
    · rw [cmpZ_gt (val_lt_of_len hB dy dz tz (by omega))]
      have hd : decide ((la : Int) < (lb : Int)) = false := by simp; omega
      go_enter Try.func47, Try.ntmps47
      go_wp2
      go_ret
      exact ⟨rfl, Below.refl _ _⟩

/-- What nat.Cmp tells. -/
def cmpN (zs ys : List Int) : Int := if rightB zs && rightB ys then cmpZ (val 18446744073709551616 zs) (val 18446744073709551616 ys) else 0

theorem right_top {zs : List Int} (h : rightB zs = true) : Top zs := by
  simp [rightB] at h
  rcases h.2 with h | h
  · exact .inl h
  · exact .inr (by simpa [List.getD] using h)
theorem right_len {zs : List Int} (h : rightB zs = true) : zs.length ≤ 64 := by
  simp [rightB] at h
  exact h.1
theorem right_mk {zs : List Int} (h : zs.length ≤ 64) (ht : Top zs) : rightB zs = true := by
  rcases ht with rfl | ht
  · rfl
  · simp [rightB, h]
    right; simpa [List.getD] using ht

set_option maxHeartbeats 800000 in
theorem cmp_any (a b : Option Addr) (la ca lb cb : Nat) (zs ys : List Int) (w : World) (h : Nums w a la ca zs) (h' : Nums w b lb cb ys) :
    Calls Try.prog 29 #[.slice a la ca, .slice b lb cb] w fun e w' => e = .returned (.int .i64 (cmpN zs ys)) ∧ Below w.heap.size w w' := by
  cases hr : rightB zs with
  | false =>
    have e1 : cmpN zs ys = 0 := by simp [cmpN, hr]
    rw [e1]
    go_enter Try.func29, Try.ntmps29
    go_wp2_with fail
    refine (right_any _ _ _ _ _ h).mono ?_
    rintro e w' ⟨rfl, rfl⟩
    go_wp2_with fail
    go_ret
    exact ⟨rfl, Below.refl _ _⟩
  | true =>
  cases hr' : rightB ys with
  | false =>
    have e1 : cmpN zs ys = 0 := by simp [cmpN, hr']
    rw [e1]
    go_enter Try.func29, Try.ntmps29
    go_wp2_with fail
    refine (right_any _ _ _ _ _ h).mono ?_
    rintro e w' ⟨rfl, rfl⟩
    go_wp2_with fail
    refine (right_any _ _ _ _ _ h').mono ?_
    rintro e w' ⟨rfl, rfl⟩
    go_wp2_with fail
    go_ret
    exact ⟨rfl, Below.refl _ _⟩
  | true =>
  have e1 : cmpN zs ys = cmpZ (val 18446744073709551616 zs) (val 18446744073709551616 ys) := by simp [cmpN, hr, hr']
  rw [e1]
  clear e1
  have hB : (0 : Int) < 18446744073709551616 := by decide
  have dz := h.digs
  have dy := h'.digs
  generalize (18446744073709551616 : Int) = B at hB dz dy ⊢
  have tz := right_top hr
  have ty := right_top hr'
  have hl := h.hlen
  have hl' := h'.hlen
  have hm := h.hmax
  have hcp := h.hcap
  unfold maxLen at hm
  by_cases hlen : la = lb
  · subst hlen
    have HL : Hid (zs.length = la ∧ ys.length = la) := ⟨hl, hl'⟩
    have hne : ((la : Int) != (la : Int)) = false := by simp
    by_cases h0 : la = 0
    · have e : cmpZ (val B zs) (val B ys) = 0 := by
        have e1 : zs = [] := List.eq_nil_of_length_eq_zero (by omega)
        have e2 : ys = [] := List.eq_nil_of_length_eq_zero (by omega)
        rw [e1, e2]; exact cmpZ_eq _
      rw [e]
      subst h0
      go_enter Try.func29, Try.ntmps29
      go_wp2_with fail
      refine (right_any _ _ _ _ _ h).mono ?_
      rintro e w' ⟨rfl, rfl⟩
      go_wp2_with fail
      refine (right_any _ _ _ _ _ h').mono ?_
      rintro e w' ⟨rfl, rfl⟩
      go_wp2_with fail
      go_loopw [27] (fun i wr => i = .int .i64 0 ∧ wr = w') (fun _ _ => 0)
      case atStart => exact ⟨rfl, rfl⟩
      case round =>
        obtain ⟨rfl, rfl⟩ := hrel
        go_wp2
        go_ret
        exact ⟨rfl, Below.refl _ _⟩
    · obtain ⟨b1, o1, rfl, hc⟩ := h.cells (by omega)
      obtain ⟨b2, o2, rfl, hc'⟩ := h'.cells (by omega)
      have hlt1 := World.block_lt_of_cell? w _ (hc 0 (by omega))
      have hlt2 := World.block_lt_of_cell? w _ (hc' 0 (by omega))
      clear hl hl'
      go_enter Try.func29, Try.ntmps29
      go_wp2_with fail
      refine (right_any _ _ _ _ _ h).mono ?_
      rintro e w1 ⟨rfl, rfl⟩
      go_wp2_with fail
      refine (right_any _ _ _ _ _ h').mono ?_
      rintro e w2 ⟨rfl, rfl⟩
      go_wp2_with fail
      clear h h'
      go_loopw [27] (fun i wr => ∃ k : Nat, k ≤ la ∧ i = .int .i64 (k : Int) ∧ (∀ j, la - k ≤ j → j < la → zs.getD j 0 = ys.getD j 0) ∧ Below w2.heap.size w2 wr) (fun i _ => la - (intOf i).toNat)
      case atStart => exact ⟨0, Nat.zero_le _, rfl, fun j h1 h2 => by omega, Below.refl _ _⟩
      case round =>
        obtain ⟨k, hk, rfl, heq, hb⟩ := hrel
        have HE : Hid (∀ j, la - k ≤ j → j < la → zs.getD j 0 = ys.getD j 0) := heq
        clear heq
        by_cases hk0 : k = la
        · subst hk0
          go_wp2
          go_ret
          refine ⟨ret_int ?_, hb⟩
          rw [eq_of_all (HL.out.1.trans HL.out.2.symm) (fun j h1 h2 => HE.out j (by omega) (by have := HL.out.1; omega)), cmpZ_eq]
        · have hlk : (k : Int) < (la : Int) := by omega
          have hge : 0 ≤ ((la : Int) - 1 - k) := by omega
          have hlti : ((la : Int) - 1 - k) < (la : Int) := by omega
          obtain ⟨x, hx⟩ : ∃ x, x = zs.getD (la - 1 - k) 0 := ⟨_, rfl⟩
          obtain ⟨y, hy⟩ : ∃ y, y = ys.getD (la - 1 - k) 0 := ⟨_, rfl⟩
          have c1 : wr.cell? ⟨b1, o1 + (la - 1 - k), none⟩ = some (.int .u64 x) := by rw [hx]; exact (hb.cell (p := ⟨b1, o1 + (la - 1 - k), none⟩) hlt1).trans (hc (la - 1 - k) (by omega))
          have c2 : wr.cell? ⟨b2, o2 + (la - 1 - k), none⟩ = some (.int .u64 y) := by rw [hy]; exact (hb.cell (p := ⟨b2, o2 + (la - 1 - k), none⟩) hlt2).trans (hc' (la - 1 - k) (by omega))
          have HX : Hid (x = zs.getD (la - 1 - k) 0 ∧ y = ys.getD (la - 1 - k) 0) := ⟨hx, hy⟩
          clear hx hy
          have hup : ∀ j, la - 1 - k < j → j < zs.length → zs.getD j 0 = ys.getD j 0 := fun j h1 h2 => HE.out j (by omega) (by have := HL.out.1; omega)
          have HU : Hid (∀ j, la - 1 - k < j → j < zs.length → zs.getD j 0 = ys.getD j 0) := hup
          clear hup
          by_cases hxy : x = y
          · subst hxy
            go_wp2
            go_quiet (fail)
            go_wp2
            go_roundw
            case rel =>
              refine ⟨k + 1, by omega, by go_num, fun j h1 h2 => ?_, below_drewN hb _⟩
              by_cases hj : la - k ≤ j
              · exact HE.out j hj h2
              · obtain rfl : j = la - 1 - k := by omega
                exact HX.out.1.symm.trans HX.out.2
            case measure => simp [intOf]; omega
          · have hnxy : (x != y) = true := by simp [hxy]
            go_wp2
            go_quiet (fail)
            go_wp2
            have hb3 := below_drewN hb nq
            have d1 : (wr.drewN nq).cell? ⟨b1, o1 + (la - 1 - k), none⟩ = some (.int .u64 x) := c1
            have d2 : (wr.drewN nq).cell? ⟨b2, o2 + (la - 1 - k), none⟩ = some (.int .u64 y) := c2
            generalize wr.drewN nq = w3 at hb3 d1 d2 ⊢
            clear c1 c2 hb
            go_quiet ((go_at_call 61; exact Calls.quiet_of_same (cmpU64_any _ _ _)))
            go_wp2
            go_ret
            refine ⟨ret_int ?_, below_drewN hb3 _⟩
            by_cases hlt : x < y
            · rw [cmpZ_lt hlt, cmpZ_lt]
              exact cmp_at hB (HL.out.1.trans HL.out.2.symm) dz dy (by have := HL.out.1; omega) HU.out (by rw [← HX.out.1, ← HX.out.2]; exact hlt)
            · have hgt : y < x := by omega
              rw [cmpZ_gt hgt, cmpZ_gt]
              exact cmp_at hB (HL.out.2.trans HL.out.1.symm) dy dz (by have := HL.out.2; omega) (fun j h1 h2 => (HU.out j h1 (by have := HL.out; omega)).symm) (by rw [← HX.out.1, ← HX.out.2]; exact hgt)
  · have hne : ((la : Int) != (lb : Int)) = true := by simp; omega
    have e2 : cmpZ (val B zs) (val B ys) = cmpZ (la : Int) (lb : Int) := by
      by_cases hlt : la < lb
      · rw [cmpZ_lt (val_lt_of_len hB dz dy ty (by omega)), cmpZ_lt (by omega)]
      · rw [cmpZ_gt (val_lt_of_len hB dy dz tz (by omega)), cmpZ_gt (by omega)]
    rw [e2]
    clear e2
    go_enter Try.func29, Try.ntmps29
    go_wp2_with fail
    refine (right_any _ _ _ _ _ h).mono ?_
    rintro e w' ⟨rfl, rfl⟩
    go_wp2_with fail
    refine (right_any _ _ _ _ _ h').mono ?_
    rintro e w' ⟨rfl, rfl⟩
    go_wp2_with fail
    refine (cmpInt_any _ _ _).mono ?_
    rintro e w' ⟨rfl, rfl⟩
    go_wp2_with fail
    go_ret
    exact ⟨rfl, Below.refl _ _⟩
end Go.Proofs.Ytaipkganijofjab

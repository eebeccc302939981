/-
  Contracts of modint's Of, Neg, Small and Cmp, and of the document's.
-/
import Derived.Test.YtaipkganijofjabWhole
import Derived.Test.YtaipkganijofjabRefCmp
namespace Go.Proofs.Ytaipkganijofjab
open Go.RowKit

/-- The size of a whole number. -/
def sz (n : Int) : Int := if n < 0 then -n else n

theorem ofZ_right (k : Int) : rightB (ofZ k) = true := by
  unfold ofZ
  split
  · rfl
  · rename_i h; simp [rightB, h]
theorem fromL_of (k : Int) : fromL (ofZ k) = ofZ k := by simp [fromL, ofZ_right]
theorem ofZ_len (k : Int) : decide (0 < (ofZ k).length) = decide (k ≠ 0) := by
  unfold ofZ
  split
  · rename_i h; simp [h]
  · rename_i h; simp [h]
theorem wrapU (z : Int) : IntKind.u64.wrap z = z % 18446744073709551616 := by simp [IntKind.wrap, IntKind.signed, IntKind.bits]
theorem neg_wrap {n : Int} (h : n < 0) (h1 : -9223372036854775808 ≤ n) : IntKind.u64.wrap (-IntKind.u64.wrap n) = -n := by
  rw [wrapU, wrapU]; omega

set_option maxHeartbeats 400000 in
theorem iof_any (n : Int) (w : World) (hn : -9223372036854775808 ≤ n ∧ n < 9223372036854775808) :
    Calls Try.prog 62 #[.int .i64 n] w fun e w' => ∃ a' n' c', e = .returned (.agg #[.bool (decide (n < 0)), .slice a' n' c']) ∧ Nums w' a' n' c' (ofZ (sz n)) ∧ Below w.heap.size w w' := by
  obtain ⟨h1, h2⟩ := hn
  have hB := (Below.refl w.heap.size w).alloc (Nat.le_refl _) (.cells #[.bool false, .slice none 0 0] 49)
  by_cases h0 : n < 0
  · have e1 : decide (n < 0) = true := by simp [h0]
    have e2 : sz n = -n := by simp [sz, h0]
    rw [e1, e2]
    have HW := (show Hid (IntKind.u64.wrap (-IntKind.u64.wrap n) = -n) from neg_wrap h0 h1)
    have HT : Hid ((true && decide (0 < (ofZ (-n)).length)) = true) := by show _ = _; rw [ofZ_len]; simp; omega
    clear e2
    go_enter Try.func62, Try.ntmps62
    go_wp2_with fail
    rw [HW.out]
    refine (of_any (-n) _ (by omega)).mono ?_
    rintro e w1 ⟨a', n', c', rfl, hn, hb1⟩
    go_wp2_with fail
    refine (signed_any _ _ _ _ _ _ hn).mono ?_
    rintro e w2 ⟨rfl, hb2⟩
    rw [HT.out]
    have hb12 := hb1.trans (hb2.mono hb1.size)
    obtain ⟨⟨c0, c1⟩, f0, f1⟩ := held2 hb12
    have hn2 := (hn.below hb2).put2 c0 c1 (.bool true) (.slice a' n' c')
    have hBB := ((hB.trans (hb12.mono hB.size)).setCell (p := ⟨w.heap.size, 0, none⟩) (Nat.le_refl _) (.bool true)).setCell (p := ⟨w.heap.size, 1, none⟩) (Nat.le_refl _) (.slice a' n' c')
    clear hn hb1 hb2 hb12 hB
    go_wp2_with fail
    exact bodyPost_ret (v := .agg #[.bool true, .slice a' n' c']) (by simp [results, Try.results62, go_sem, c0, c1]) rfl ⟨_, _, _, rfl, hn2, hBB⟩
  · have e1 : decide (n < 0) = false := by simp [h0]
    have e2 : sz n = n := by simp [sz, h0]
    rw [e1, e2]
    clear e2
    go_enter Try.func62, Try.ntmps62
    go_wp2_with fail
    refine (of_any n _ (by omega)).mono ?_
    rintro e w1 ⟨a', n', c', rfl, hn, hb1⟩
    go_wp2_with fail
    refine (signed_any _ _ _ _ _ _ hn).mono ?_
    rintro e w2 ⟨rfl, hb2⟩
    rw [Bool.false_and]
    have hb12 := hb1.trans (hb2.mono hb1.size)
    obtain ⟨⟨c0, c1⟩, f0, f1⟩ := held2 hb12
    have hn2 := (hn.below hb2).put2 c0 c1 (.bool false) (.slice a' n' c')
    have hBB := ((hB.trans (hb12.mono hB.size)).setCell (p := ⟨w.heap.size, 0, none⟩) (Nat.le_refl _) (.bool false)).setCell (p := ⟨w.heap.size, 1, none⟩) (Nat.le_refl _) (.slice a' n' c')
    clear hn hb1 hb2 hb12 hB
    go_wp2_with fail
    exact bodyPost_ret (v := .agg #[.bool false, .slice a' n' c']) (by simp [results, Try.results62, go_sem, c0, c1]) rfl ⟨_, _, _, rfl, hn2, hBB⟩

set_option maxHeartbeats 400000 in
theorem refIOf_any (n : Int) (w : World) (hn : -9223372036854775808 ≤ n ∧ n < 9223372036854775808) :
    Calls Try.prog 34 #[.int .i64 n] w fun e w' => ∃ a' n' c', e = .returned (.agg #[.bool (decide (n < 0)), .slice a' n' c']) ∧ Nums w' a' n' c' (ofZ (sz n)) ∧ Below w.heap.size w w' := by
  obtain ⟨h1, h2⟩ := hn
  have hB := (Below.refl w.heap.size w).alloc (Nat.le_refl _) (.cells #[.bool false, .slice none 0 0] 49)
  by_cases h0 : n < 0
  · have e1 : decide (n < 0) = true := by simp [h0]
    have e2 : sz n = -n := by simp [sz, h0]
    rw [e1, e2]
    have HW := (show Hid (-(n + 1) + 1 = -n) from (by omega : -(n + 1) + 1 = -n))
    have HT : Hid (fromN true (ofZ (-n)) = true) := by show _ = _; rw [fromN, fromL_of, ofZ_len]; simp; omega
    clear e2
    go_enter Try.func34, Try.ntmps34
    go_wp2_with fail
    rw [HW.out]
    refine (refOf_any (-n) _ (by omega)).mono ?_
    rintro e w1 ⟨a1, n1, c1, rfl, hn, hb1⟩
    go_wp2_with fail
    refine (refFrom_any _ _ _ _ _ _ hn).mono ?_
    rintro e w2 ⟨a', n', c', rfl, hn', hb2⟩
    rw [HT.out]
    rw [fromL_of] at hn'
    have hb12 := hb1.trans (hb2.mono hb1.size)
    obtain ⟨⟨c0, c1⟩, f0, f1⟩ := held2 hb12
    have hn2 := hn'.put2 c0 c1 (.bool true) (.slice a' n' c')
    have hBB := ((hB.trans (hb12.mono hB.size)).setCell (p := ⟨w.heap.size, 0, none⟩) (Nat.le_refl _) (.bool true)).setCell (p := ⟨w.heap.size, 1, none⟩) (Nat.le_refl _) (.slice a' n' c')
    clear hn hn' hb1 hb2 hb12 hB
    go_wp2_with fail
    exact bodyPost_ret (v := .agg #[.bool true, .slice a' n' c']) (by simp [results, Try.results34, go_sem, c0, c1]) rfl ⟨_, _, _, rfl, hn2, hBB⟩
  · have e1 : decide (n < 0) = false := by simp [h0]
    have e2 : sz n = n := by simp [sz, h0]
    rw [e1, e2]
    clear e2
    go_enter Try.func34, Try.ntmps34
    go_wp2_with fail
    refine (refOf_any n _ (by omega)).mono ?_
    rintro e w1 ⟨a1, n1, c1, rfl, hn, hb1⟩
    go_wp2_with fail
    refine (refFrom_any _ _ _ _ _ _ hn).mono ?_
    rintro e w2 ⟨a', n', c', rfl, hn', hb2⟩
    rw [show fromN false (ofZ n) = false by simp [fromN]]
    rw [fromL_of] at hn'
    have hb12 := hb1.trans (hb2.mono hb1.size)
    obtain ⟨⟨c0, c1⟩, f0, f1⟩ := held2 hb12
    have hn2 := hn'.put2 c0 c1 (.bool false) (.slice a' n' c')
    have hBB := ((hB.trans (hb12.mono hB.size)).setCell (p := ⟨w.heap.size, 0, none⟩) (Nat.le_refl _) (.bool false)).setCell (p := ⟨w.heap.size, 1, none⟩) (Nat.le_refl _) (.slice a' n' c')
    clear hn hn' hb1 hb2 hb12 hB
    go_wp2_with fail
    exact bodyPost_ret (v := .agg #[.bool false, .slice a' n' c']) (by simp [results, Try.results34, go_sem, c0, c1]) rfl ⟨_, _, _, rfl, hn2, hBB⟩

/-- The opposite one's limbs and sign. -/
def negL (n : Bool) (zs : List Int) : List Int := if rightI n zs then zs else []
def negN (n : Bool) (zs : List Int) : Bool := rightI n zs && (!n && decide (0 < zs.length))

theorem rightI_B {n : Bool} {zs : List Int} (h : rightI n zs = true) : rightB zs = true := by
  simp [rightI] at h; exact h.1

set_option maxHeartbeats 400000 in
theorem ineg_any (n : Bool) (a : Option Addr) (la ca : Nat) (zs : List Int) (w : World) (h : Nums w a la ca zs) :
    Calls Try.prog 72 #[.agg #[.bool n, .slice a la ca]] w fun e w' => ∃ a' n' c', e = .returned (.agg #[.bool (negN n zs), .slice a' n' c']) ∧ Nums w' a' n' c' (negL n zs) ∧ Below w.heap.size w w' := by
  have hB := ((Below.refl w.heap.size w).alloc (Nat.le_refl _) (.cells #[.bool n, .slice a la ca] 49)).alloc (by simp) (.cells #[.bool false, .slice none 0 0] 49)
  have H := h.below hB
  cases hr : rightI n zs with
  | false =>
    have e1 : negL n zs = [] := by simp [negL, hr]
    have e2 : negN n zs = false := by simp [negN, hr]
    rw [e1, e2]
    clear e1 e2
    go_enter Try.func72, Try.ntmps72
    go_wp2_with fail
    refine (iright_any _ _ _ _ _ _ H).mono ?_
    rintro e w1 ⟨rfl, hb1⟩
    rw [hr]
    obtain ⟨⟨c0, c1⟩, ⟨d0, d1⟩, -, f0, f1⟩ := held22 hb1
    have hBB := ((hB.trans (hb1.mono hB.size)).setCell (p := ⟨w.heap.size + 1, 0, none⟩) (by simp) (.bool false)).setCell (p := ⟨w.heap.size + 1, 1, none⟩) (by simp) (.slice none 0 0)
    clear hB hb1 H
    go_wp2_with fail
    exact bodyPost_ret (v := .agg #[.bool false, .slice none 0 0]) (by simp [results, Try.results72, go_sem, d0, d1]) rfl ⟨_, _, _, rfl, Nums.nil _, hBB⟩
  | true =>
    have e1 : negL n zs = fromL zs := by simp [negL, hr, fromL, rightI_B hr]
    have e2 : negN n zs = fromN (!n) zs := by simp [negN, hr, fromN, fromL, rightI_B hr]
    rw [e1, e2]
    obtain ⟨q, hq⟩ : ∃ q, q = fromN (!n) zs := ⟨_, rfl⟩
    rw [← hq]
    have HQ : Hid (q = fromN (!n) zs) := hq
    clear hq e1 e2
    go_enter Try.func72, Try.ntmps72
    go_wp2_with fail
    refine (iright_any _ _ _ _ _ _ H).mono ?_
    rintro e w1 ⟨rfl, hb1⟩
    rw [hr]
    obtain ⟨⟨c0, c1⟩, ⟨d0, d1⟩, -, f0, f1⟩ := held22 hb1
    have H1 := H.below hb1
    go_wp2_with fail
    refine (from_any _ _ _ _ _ _ H1).mono ?_
    rintro e w2 ⟨a', n', c', rfl, hn', hb2⟩
    rw [← HQ.out]
    have hb12 := hb1.trans (hb2.mono hb1.size)
    clear c0 c1 d0 d1 f0 f1
    obtain ⟨⟨c0, c1⟩, ⟨d0, d1⟩, -, f0, f1⟩ := held22 hb12
    have hn2 := hn'.put2 d0 d1 (.bool q) (.slice a' n' c')
    have hBB := ((hB.trans (hb12.mono hB.size)).setCell (p := ⟨w.heap.size + 1, 0, none⟩) (by simp) (.bool q)).setCell (p := ⟨w.heap.size + 1, 1, none⟩) (by simp) (.slice a' n' c')
    clear hn' hb1 hb2 hb12 hB H H1
    go_wp2_with fail
    exact bodyPost_ret (v := .agg #[.bool q, .slice a' n' c']) (by simp [results, Try.results72, go_sem, d0, d1]) rfl ⟨_, _, _, rfl, hn2, hBB⟩

set_option maxHeartbeats 400000 in
theorem refINeg_any (n : Bool) (a : Option Addr) (la ca : Nat) (zs : List Int) (w : World) (h : Nums w a la ca zs) :
    Calls Try.prog 68 #[.agg #[.bool n, .slice a la ca]] w fun e w' => ∃ a' n' c', e = .returned (.agg #[.bool (negN n zs), .slice a' n' c']) ∧ Nums w' a' n' c' (negL n zs) ∧ Below w.heap.size w w' := by
  have hB := ((Below.refl w.heap.size w).alloc (Nat.le_refl _) (.cells #[.bool n, .slice a la ca] 49)).alloc (by simp) (.cells #[.bool false, .slice none 0 0] 49)
  have H := h.below hB
  cases hr : rightI n zs with
  | false =>
    have e1 : negL n zs = [] := by simp [negL, hr]
    have e2 : negN n zs = false := by simp [negN, hr]
    rw [e1, e2]
    clear e1 e2
    go_enter Try.func68, Try.ntmps68
    go_wp2_with fail
    refine (refIRight_any _ _ _ _ _ _ H).mono ?_
    rintro e w1 ⟨rfl, hb1⟩
    rw [hr]
    obtain ⟨⟨c0, c1⟩, ⟨d0, d1⟩, -, f0, f1⟩ := held22 hb1
    have hBB := ((hB.trans (hb1.mono hB.size)).setCell (p := ⟨w.heap.size + 1, 0, none⟩) (by simp) (.bool false)).setCell (p := ⟨w.heap.size + 1, 1, none⟩) (by simp) (.slice none 0 0)
    clear hB hb1 H
    go_wp2_with fail
    exact bodyPost_ret (v := .agg #[.bool false, .slice none 0 0]) (by simp [results, Try.results68, go_sem, d0, d1]) rfl ⟨_, _, _, rfl, Nums.nil _, hBB⟩
  | true =>
    have e1 : negL n zs = fromL zs := by simp [negL, hr, fromL, rightI_B hr]
    have e2 : negN n zs = fromN (!n) zs := by simp [negN, hr, fromN, fromL, rightI_B hr]
    rw [e1, e2]
    obtain ⟨q, hq⟩ : ∃ q, q = fromN (!n) zs := ⟨_, rfl⟩
    rw [← hq]
    have HQ : Hid (q = fromN (!n) zs) := hq
    clear hq e1 e2
    go_enter Try.func68, Try.ntmps68
    go_wp2_with fail
    refine (refIRight_any _ _ _ _ _ _ H).mono ?_
    rintro e w1 ⟨rfl, hb1⟩
    rw [hr]
    obtain ⟨⟨c0, c1⟩, ⟨d0, d1⟩, -, f0, f1⟩ := held22 hb1
    have H1 := H.below hb1
    go_wp2_with fail
    refine (refFrom_any _ _ _ _ _ _ H1).mono ?_
    rintro e w2 ⟨a', n', c', rfl, hn', hb2⟩
    rw [← HQ.out]
    have hb12 := hb1.trans (hb2.mono hb1.size)
    clear c0 c1 d0 d1 f0 f1
    obtain ⟨⟨c0, c1⟩, ⟨d0, d1⟩, -, f0, f1⟩ := held22 hb12
    have hn2 := hn'.put2 d0 d1 (.bool q) (.slice a' n' c')
    have hBB := ((hB.trans (hb12.mono hB.size)).setCell (p := ⟨w.heap.size + 1, 0, none⟩) (by simp) (.bool q)).setCell (p := ⟨w.heap.size + 1, 1, none⟩) (by simp) (.slice a' n' c')
    clear hn' hb1 hb2 hb12 hB H H1
    go_wp2_with fail
    exact bodyPost_ret (v := .agg #[.bool q, .slice a' n' c']) (by simp [results, Try.results68, go_sem, d0, d1]) rfl ⟨_, _, _, rfl, hn2, hBB⟩


/-- Which one is the greater one. -/
def cmpI (n : Bool) (zs : List Int) (m : Bool) (ys : List Int) : Int :=
  if rightI n zs && rightI m ys then (if n then (if m then cmpN ys zs else -1) else if m then 1 else cmpN zs ys) else 0


/-- A whole number as a small one. -/
def ismB (n : Bool) (zs : List Int) : Bool := rightI n zs && (decide (zs.length ≤ 1) && (if n then decide (smallZ zs ≤ 9223372036854775808) else decide (smallZ zs < 9223372036854775808)))
def ismZ (n : Bool) (zs : List Int) : Int := if ismB n zs then (if n then - smallZ zs else smallZ zs) else 0

theorem neg_small {x : Int} (h : 1 ≤ x) (h1 : x ≤ 9223372036854775808) : wrap64 (IntKind.u64.wrap (-x)) = -x := by
  rw [wrapU]
  unfold RowKit.wrap64
  omega

theorem smallZ_bd {w : World} {a : Option Addr} {la ca : Nat} {zs : List Int} (h : Nums w a la ca zs) : 0 ≤ smallZ zs ∧ smallZ zs < 18446744073709551616 := by
  unfold smallZ
  split
  · exact h.digs.getD (by decide) 0
  · omega
theorem smallZ_pos {w : World} {a : Option Addr} {la ca : Nat} {zs : List Int} (h : Nums w a la ca zs) (hr : rightI true zs = true) (hs : smallB zs = true) : 1 ≤ smallZ zs := by
  have hb := smallZ_bd h
  simp only [rightI, Bool.and_eq_true, Bool.true_and, Bool.not_eq_true', decide_eq_false_iff_not] at hr
  simp only [smallB, Bool.and_eq_true, decide_eq_true_eq] at hs
  have hl : zs.length = 1 := by omega
  have hr1 := hr.1
  simp only [rightB, hl, Bool.and_eq_true] at hr1
  have hz : smallZ zs = zs.getD 0 0 := by unfold smallZ; rw [if_pos (by simp [hs.1, hl])]
  have : zs.getD 0 0 ≠ 0 := by simpa using hr1.2
  omega

end Go.Proofs.Ytaipkganijofjab

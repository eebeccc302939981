/-
  Contracts of the program's isCount, mayBe, kind (frame) and of slices.Equal of bytes.
-/
import Derived.Test.YtpoipobmkfphcaaX10A
import Derived.BigQuiet
namespace Go.Proofs.Ytpoipobmkfphcaa
open Go.RowKit

def cntB (n : Int) : Bool := decide (0 ≤ n ∧ n ≤ 1073741824)
theorem cntB_iff {n : Int} : cntB n = true ↔ 0 ≤ n ∧ n ≤ 1073741824 := by unfold cntB; simp
set_option maxHeartbeats 800000 in
theorem f10count_any (n : Int) (w : World) : Calls Try.prog 33 #[.int .i64 n] w fun e w' => e = .returned (.bool (cntB n)) ∧ w = w' := by
  by_cases h1 : 0 ≤ n
  · by_cases h2 : n ≤ 1073741824
    · have HE : Hid (true = cntB n) := (cntB_iff.2 ⟨h1, h2⟩).symm
      go_enter Try.func33, Try.ntmps33
      go_wp2
      go_ret
      exact ⟨ret_bool HE.out, rfl⟩
    · have HE : Hid (false = cntB n) := (Bool.eq_false_iff.2 (fun h => h2 (cntB_iff.1 h).2)).symm
      have h2d : decide (n ≤ 1073741824) = false := decide_eq_false h2
      go_enter Try.func33, Try.ntmps33
      go_wp2
      go_ret
      exact ⟨ret_bool HE.out, rfl⟩
  · have HE : Hid (false = cntB n) := (Bool.eq_false_iff.2 (fun h => h1 (cntB_iff.1 h).1)).symm
    have h1d : decide (0 ≤ n) = false := decide_eq_false h1
    go_enter Try.func33, Try.ntmps33
    go_wp2
    go_ret
    exact ⟨ret_bool HE.out, rfl⟩

theorem bool_not {p q : Bool} (h : p = true → q = true → False) : (p && q) = false := by
  cases p <;> cases q <;> simp at *

set_option maxRecDepth 20000 in
set_option maxHeartbeats 3200000 in
theorem f10may_any (d : Bool) (s a : Int) (b : Option Addr) (lb cb : Nat) (w : World) (hlb : lb < 9223372036854775808) :
    Calls Try.prog 18 #[.agg #[.bool d, .int .i64 s, .int .i64 a, .slice b lb cb]] w fun e w' => e = .returned (.bool (rightFr d s a lb)) ∧ Below w.heap.size w w' := by
  have hV := balloc w (.cells #[.bool d, .int .i64 s, .int .i64 a, .slice b lb cb] 27)
  have NO : (0 ≤ s ∧ s ≤ 1073741824 ∧ 0 ≤ a ∧ a ≤ 1073741824 ∧ lb ≤ 1048576 ∧ (d = true ∨ s = 0 ∧ lb = 0) → False) → Hid (false = rightFr d s a lb) := fun h => (Bool.eq_false_iff.2 (fun e => h ((rightFr_iff d s a lb).1 e))).symm
  have YES : (0 ≤ s ∧ s ≤ 1073741824 ∧ 0 ≤ a ∧ a ≤ 1073741824 ∧ lb ≤ 1048576 ∧ (d = true ∨ s = 0 ∧ lb = 0)) → Hid (true = rightFr d s a lb) := fun h => ((rightFr_iff d s a lb).2 h).symm
  by_cases hd : d = true ∨ s = 0 ∧ lb = 0
  case neg =>
    have hd0 : d = false := by cases d <;> simp at hd ⊢
    subst hd0
    have HE := NO (fun h => hd h.2.2.2.2.2)
    clear NO YES
    by_cases h6 : s = 0
    · have h7 : (0 : Int) < (lb : Int) := by simp at hd; omega
      subst h6
      clear hd
      go_enter Try.func18, Try.ntmps18
      go_wp2
      go_ret
      exact ⟨ret_bool HE.out, hV⟩
    · have h6d : (s == 0) = false := by simp; omega
      have h6e : (s != 0) = true := by simp; omega
      clear hd
      go_enter Try.func18, Try.ntmps18
      go_wp2
      go_ret
      exact ⟨ret_bool HE.out, hV⟩
  have HC := @cntB_iff
  have KS : ∀ wx : World, Hid (Calls Try.prog 33 #[.int .i64 s] wx fun e w' => e = .returned (.bool (cntB s)) ∧ wx = w') := fun wx => f10count_any s wx
  have KA : ∀ wx : World, Hid (Calls Try.prog 33 #[.int .i64 a] wx fun e w' => e = .returned (.bool (cntB a)) ∧ wx = w') := fun wx => f10count_any a wx
  have HD : d = true ∨ d = false ∧ s = 0 ∧ lb = 0 := by
    rcases hd with h | h
    · exact .inl h
    · cases d
      · exact .inr ⟨rfl, h⟩
      · exact .inl rfl
  have HE : Hid ((if cntB s then (if cntB a then decide ((lb : Int) ≤ 1048576) else false) else false) = rightFr d s a lb) := by
    show _ = _
    by_cases k1 : cntB s = true
    · by_cases k2 : cntB a = true
      · rw [if_pos k1, if_pos k2]
        by_cases k3 : lb ≤ 1048576
        · rw [decide_eq_true (by omega)]
          exact (YES ⟨(HC.1 k1).1, (HC.1 k1).2, (HC.1 k2).1, (HC.1 k2).2, k3, hd⟩).out
        · rw [decide_eq_false (by omega)]
          exact (NO (fun h => k3 h.2.2.2.2.1)).out
      · rw [if_pos k1, if_neg k2]
        exact (NO (fun h => k2 (HC.2 ⟨h.2.2.1, h.2.2.2.1⟩))).out
    · rw [if_neg k1]
      exact (NO (fun h => k1 (HC.2 ⟨h.1, h.2.1⟩))).out
  clear NO YES hd HC
  generalize cntB s = B1 at *
  generalize cntB a = B2 at *
  have h8 : decide ((lb : Int) ≤ 1048576) = true ∨ decide ((lb : Int) ≤ 1048576) = false := by cases decide ((lb : Int) ≤ 1048576) <;> simp
  rcases HD with rfl | ⟨rfl, rfl, rfl⟩
  all_goals
    cases B1 with
    | false =>
      go_enter Try.func18, Try.ntmps18
      go_wp2_with fail
      refine (KS _).out.mono ?_
      rintro e w1 ⟨rfl, rfl⟩
      clear KS KA
      go_wp2_with fail
      go_ret
      exact ⟨ret_bool (by have := HE.out; simpa using this), hV⟩
    | true =>
      cases B2 with
      | false =>
        go_enter Try.func18, Try.ntmps18
        go_wp2_with fail
        refine (KS _).out.mono ?_
        rintro e w1 ⟨rfl, rfl⟩
        clear KS
        go_wp2_with fail
        refine (KA _).out.mono ?_
        rintro e w1 ⟨rfl, rfl⟩
        clear KA
        go_wp2_with fail
        go_ret
        exact ⟨ret_bool (by have := HE.out; simpa using this), hV⟩
      | true =>
        rcases h8 with h8 | h8
        all_goals
          go_enter Try.func18, Try.ntmps18
          go_wp2_with fail
          refine (KS _).out.mono ?_
          rintro e w1 ⟨rfl, rfl⟩
          clear KS
          go_wp2_with fail
          refine (KA _).out.mono ?_
          rintro e w1 ⟨rfl, rfl⟩
          clear KA
          go_wp2_with fail
          go_ret
          exact ⟨ret_bool (by have := HE.out; simpa [h8] using this), hV⟩

set_option maxHeartbeats 800000 in
theorem f10kind_any (d : Bool) (s a : Int) (b : Option Addr) (lb cb : Nat) (w : World) :
    Calls Try.prog 20 #[.agg #[.bool d, .int .i64 s, .int .i64 a, .slice b lb cb]] w fun e w' => e = .returned (.int .u8 (if d then 1 else 0)) ∧ Below w.heap.size w w' := by
  have hV := balloc w (.cells #[.bool d, .int .i64 s, .int .i64 a, .slice b lb cb] 27)
  cases d
  all_goals
    go_enter Try.func20, Try.ntmps20
    go_wp2
    go_ret
    exact ⟨rfl, hV⟩
end Go.Proofs.Ytpoipobmkfphcaa

/-
  Contracts of the program's isUpTo, holds, areNumbers, rise, areNats (wire).
-/
import Derived.Test.YtnbdbahfekneoaaW12Mem
import Derived.BigQuiet
namespace Go.Proofs.Ytnbdbahfekneoaa
open Go.RowKit

def upB (n most : Int) : Bool := decide (0 ≤ n ∧ n ≤ most)
def inB (l m n : Int) : Bool := decide (l ≤ n ∧ n ≤ m)
set_option maxHeartbeats 800000 in
theorem x12up_any (n most : Int) (w : World) : Calls Try.prog 42 #[.int .i64 n, .int .i64 most] w fun e w' => e = .returned (.bool (upB n most)) ∧ w = w' := by
  by_cases h0 : 0 ≤ n
  · by_cases h1 : n ≤ most
    · have HE : Hid (true = upB n most) := (decide_eq_true ⟨h0, h1⟩).symm
      have h1d : decide (n ≤ most) = true := decide_eq_true h1
      have h0d : decide (0 ≤ n) = true := decide_eq_true h0
      go_enter Try.func42, Try.ntmps42
      go_wp2
      go_ret
      exact ⟨ret_bool HE.out, rfl⟩
    · have HE : Hid (false = upB n most) := (decide_eq_false (fun e => h1 e.2)).symm
      have h1d : decide (n ≤ most) = false := decide_eq_false h1
      have h0d : decide (0 ≤ n) = true := decide_eq_true h0
      clear h1
      go_enter Try.func42, Try.ntmps42
      go_wp2
      go_ret
      exact ⟨ret_bool HE.out, rfl⟩
  · have HE : Hid (false = upB n most) := (decide_eq_false (fun e => h0 e.1)).symm
    have h0d : decide (0 ≤ n) = false := decide_eq_false h0
    clear h0
    go_enter Try.func42, Try.ntmps42
    go_wp2
    go_ret
    exact ⟨ret_bool HE.out, rfl⟩
set_option maxHeartbeats 800000 in
theorem x12holds_any (l m n : Int) (w : World) : Calls Try.prog 43 #[.agg #[.int .i64 l, .int .i64 m], .int .i64 n] w fun e w' => e = .returned (.bool (inB l m n)) ∧ Below w.heap.size w w' := by
  have hB := balloc w (.cells #[.int .i64 l, .int .i64 m] 37)
  by_cases h0 : l ≤ n
  · by_cases h1 : n ≤ m
    · have HE : Hid (true = inB l m n) := (decide_eq_true ⟨h0, h1⟩).symm
      have h1d : decide (n ≤ m) = true := decide_eq_true h1
      have h0d : decide (l ≤ n) = true := decide_eq_true h0
      go_enter Try.func43, Try.ntmps43
      go_wp2
      go_ret
      exact ⟨ret_bool HE.out, hB⟩
    · have HE : Hid (false = inB l m n) := (decide_eq_false (fun e => h1 e.2)).symm
      have h1d : decide (n ≤ m) = false := decide_eq_false h1
      have h0d : decide (l ≤ n) = true := decide_eq_true h0
      clear h1
      go_enter Try.func43, Try.ntmps43
      go_wp2
      go_ret
      exact ⟨ret_bool HE.out, hB⟩
  · have HE : Hid (false = inB l m n) := (decide_eq_false (fun e => h0 e.1)).symm
    have h0d : decide (l ≤ n) = false := decide_eq_false h0
    clear h0
    go_enter Try.func43, Try.ntmps43
    go_wp2
    go_ret
    exact ⟨ret_bool HE.out, hB⟩
set_option maxRecDepth 20000 in
set_option maxHeartbeats 1600000 in
theorem x12nums_any (a : Option Addr) (l c : Nat) (xs : List Int) (w : World) (h : Lsts w a l c xs) : Calls Try.prog 19 #[.slice a l c] w fun e w' => ∃ r, e = .returned (.bool r) ∧ (r = true ↔ ∀ i, i < xs.length → 0 ≤ xs.getD i 0 ∧ xs.getD i 0 ≤ 1073741824) ∧ w = w' := by
  have hm := h.hmax
  have hc := h.hcap
  unfold maxLen at hm
  have HL : Hid (xs.length = l) := h.hlen
  have H : Hid (Lsts w a l c xs) := h
  clear h
  go_enter Try.func19, Try.ntmps19
  go_wp2
  go_loopw [7] (fun v7 wr => ∃ k : Nat, k ≤ l ∧ v7 = .int .i64 k ∧ Hid (∀ j, j < k → 0 ≤ xs.getD j 0 ∧ xs.getD j 0 ≤ 1073741824) ∧ w = wr) (fun v7 _ => l - (intOf v7).toNat)
  case atStart => exact ⟨0, by omega, rfl, fun j hj => by omega, rfl⟩
  case round =>
    obtain ⟨k, hk, rfl, HE, rfl⟩ := hrel
    by_cases hlt : k < l
    · have hlti : (k : Int) < (l : Int) := by omega
      obtain ⟨b1, o1, rfl, c1⟩ := H.out.cells (by omega)
      replace c1 := c1 k hlt
      obtain ⟨x, hx⟩ : ∃ x, x = xs.getD k 0 := ⟨_, rfl⟩
      rw [← hx] at c1
      have HX : Hid (x = xs.getD k 0) := hx
      have HC := (show Hid _ from x12up_any x 1073741824 w)
      obtain ⟨r, hr⟩ : ∃ r, r = upB x 1073741824 := ⟨_, rfl⟩
      rw [← hr] at HC
      have HR : Hid (r = upB x 1073741824) := hr
      clear hx hr
      go_wp2_with fail
      refine Calls.mono HC.out ?_
      rintro e w1 ⟨rfl, rfl⟩
      clear HC
      cases r with
      | true =>
        have HN : Hid (∀ j, j < k + 1 → 0 ≤ xs.getD j 0 ∧ xs.getD j 0 ≤ 1073741824) := fun j hj => by
          by_cases e : j = k
          · subst e
            rw [← HX.out]
            exact of_decide_eq_true HR.out.symm
          · exact HE.out j (by omega)
        clear HX HE HR
        go_wp2
        go_roundw
        case rel => exact ⟨k + 1, by omega, by go_num, HN, by first | rfl | trivial⟩
        case measure => simp [intOf]; omega
      | false =>
        have HF : Hid (¬ ∀ i, i < xs.length → 0 ≤ xs.getD i 0 ∧ xs.getD i 0 ≤ 1073741824) := fun q => by
          have := q k (by rw [HL.out]; exact hlt)
          rw [← HX.out] at this
          exact absurd this (of_decide_eq_false HR.out.symm)
        clear HX HE HR
        go_wp2
        go_ret
        exact ⟨false, rfl, ⟨fun e => (by cases e), fun e => absurd e HF.out⟩, rfl⟩
    · obtain rfl : k = l := by omega
      have HF : Hid (∀ i, i < xs.length → 0 ≤ xs.getD i 0 ∧ xs.getD i 0 ≤ 1073741824) := fun i hi => HE.out i (by rw [← HL.out]; exact hi)
      clear HE
      go_wp2
      go_ret
      exact ⟨true, rfl, ⟨fun _ => HF.out, fun _ => rfl⟩, rfl⟩
set_option maxRecDepth 20000 in
set_option maxHeartbeats 1600000 in
theorem x12rise_any (a : Option Addr) (l c : Nat) (xs : List Int) (w : World) (h : Lsts w a l c xs) : Calls Try.prog 20 #[.slice a l c] w fun e w' => ∃ r, e = .returned (.bool r) ∧ (r = true ↔ ∀ i, i < xs.length → 0 < i → xs.getD (i - 1) 0 < xs.getD i 0) ∧ Below w.heap.size w w' := by
  have hm := h.hmax
  have hc := h.hcap
  unfold maxLen at hm
  have HL : Hid (xs.length = l) := h.hlen
  have H : Hid (Lsts w a l c xs) := h
  clear h
  go_enter Try.func20, Try.ntmps20
  go_wp2
  go_loopw [6] (fun v6 wr => ∃ k : Nat, k ≤ l ∧ v6 = .int .i64 k ∧ Hid (∀ j, j < k → 0 < j → xs.getD (j - 1) 0 < xs.getD j 0) ∧ Below w.heap.size w wr) (fun v6 _ => l - (intOf v6).toNat)
  case atStart => exact ⟨0, by omega, rfl, fun j hj => by omega, Below.refl _ _⟩
  case round =>
    obtain ⟨k, hk, rfl, HE, hb⟩ := hrel
    by_cases hlt : k < l
    · have hlti : (k : Int) < (l : Int) := by omega
      by_cases hk0 : k = 0
      · subst hk0
        have HN : Hid (∀ j, j < 0 + 1 → 0 < j → xs.getD (j - 1) 0 < xs.getD j 0) := fun j h1 h2 => by omega
        clear HE
        go_wp2
        go_quiet (fail)
        go_wp2
        go_roundw
        case rel => exact ⟨0 + 1, by omega, by go_num, HN, below_drewN hb _⟩
        case measure => simp [intOf]; omega
      obtain ⟨m, rfl⟩ : ∃ m, k = m + 1 := ⟨k - 1, by omega⟩
      obtain ⟨K, hK⟩ : ∃ K, K = m + 1 := ⟨_, rfl⟩
      rw [← hK] at HE hlt hlti hk ⊢
      have hK1 : (K : Int) - 1 = (m : Int) := by omega
      have hK0 : (0 : Int) < (K : Int) := by omega
      have hK0n : 0 < K := by omega
      have hm0 : (0 : Int) ≤ (m : Int) := by omega
      have hml : (m : Int) < (l : Int) := by omega
      obtain ⟨b1, o1, rfl, c1⟩ := (H.out.below hb).cells (by omega)
      have c2 := c1 m (by omega)
      replace c1 := c1 K hlt
      obtain ⟨x, hx⟩ : ∃ x, x = xs.getD K 0 := ⟨_, rfl⟩
      obtain ⟨y, hy⟩ : ∃ y, y = xs.getD m 0 := ⟨_, rfl⟩
      rw [← hx] at c1
      rw [← hy] at c2
      have HX : Hid (x = xs.getD K 0 ∧ y = xs.getD m 0 ∧ K = m + 1) := ⟨hx, hy, hK⟩
      clear hx hy hK
      by_cases hxy : x ≤ y
      · have hxd : decide (x ≤ y) = true := decide_eq_true hxy
        have HF : Hid (¬ ∀ i, i < xs.length → 0 < i → xs.getD (i - 1) 0 < xs.getD i 0) := fun q => by
          have := q K (by rw [HL.out]; exact hlt) hK0n
          rw [show K - 1 = m by rw [HX.out.2.2]; rfl, ← HX.out.1, ← HX.out.2.1] at this
          omega
        clear HX HE hxy
        go_wp2
        go_quiet (fail)
        go_wp2
        go_ret
        exact ⟨false, rfl, ⟨fun e => (by cases e), fun e => absurd e HF.out⟩, below_drewN hb _⟩
      · have hxd : decide (x ≤ y) = false := decide_eq_false hxy
        have HN : Hid (∀ j, j < K + 1 → 0 < j → xs.getD (j - 1) 0 < xs.getD j 0) := fun j h1 h2 => by
          by_cases e : j = K
          · subst e
            rw [show j - 1 = m by rw [HX.out.2.2]; rfl, ← HX.out.1, ← HX.out.2.1]
            omega
          · exact HE.out j (by omega) h2
        clear HX HE hxy
        go_wp2
        go_quiet (fail)
        go_wp2
        go_roundw
        case rel => exact ⟨K + 1, by omega, by go_num, HN, below_drewN hb _⟩
        case measure => simp [intOf]; omega
    · obtain rfl : k = l := by omega
      have HF : Hid (∀ i, i < xs.length → 0 < i → xs.getD (i - 1) 0 < xs.getD i 0) := fun i hi => HE.out i (by rw [← HL.out]; exact hi)
      clear HE
      go_wp2
      go_ret
      exact ⟨true, rfl, ⟨fun _ => HF.out, fun _ => rfl⟩, hb⟩
set_option maxRecDepth 20000 in
set_option maxHeartbeats 1600000 in
theorem x12nats_any (a : Option Addr) (l c : Nat) (ns : List (List Int)) (w : World) (h : NRow w a l c ns) : Calls Try.prog 21 #[.slice a l c] w fun e w' => ∃ r, e = .returned (.bool r) ∧ (r = true ↔ ∀ i, i < ns.length → rightB (ns.getD i []) = true ∧ (ns.getD i []).length ≤ 4) ∧ w = w' := by
  have hm := h.hmax
  have hc := h.hcap
  unfold maxLen at hm
  have HL : Hid (ns.length = l) := h.hlen
  have H : Hid (NRow w a l c ns) := h
  clear h
  go_enter Try.func21, Try.ntmps21
  go_wp2
  go_loopw [7] (fun v7 wr => ∃ k : Nat, k ≤ l ∧ v7 = .int .i64 k ∧ Hid (∀ j, j < k → rightB (ns.getD j []) = true ∧ (ns.getD j []).length ≤ 4) ∧ w = wr) (fun v7 _ => l - (intOf v7).toNat)
  case atStart => exact ⟨0, by omega, rfl, fun j hj => by omega, rfl⟩
  case round =>
    obtain ⟨k, hk, rfl, HE, rfl⟩ := hrel
    by_cases hlt : k < l
    · have hlti : (k : Int) < (l : Int) := by omega
      obtain ⟨b1, o1, rfl, c1⟩ := H.out.cells (by omega)
      obtain ⟨p, q, cq, c2, hN⟩ := c1 k hlt
      clear c1
      have hql := hN.hlen
      have hqc := hN.hcap
      have hqm := hN.hmax
      unfold maxLen at hqm
      have HC := (show Hid _ from right_any p q cq _ w hN)
      obtain ⟨r, hr⟩ : ∃ r, r = rightB (ns.getD k []) := ⟨_, rfl⟩
      rw [← hr] at HC
      have HR : Hid (r = rightB (ns.getD k []) ∧ (ns.getD k []).length = q) := ⟨hr, hql⟩
      clear hr hql hN
      go_wp2_with fail
      refine Calls.mono HC.out ?_
      rintro e w1 ⟨rfl, rfl⟩
      clear HC
      cases r with
      | true =>
        by_cases hq4 : 4 < q
        · have hq4i : (4 : Int) < (q : Int) := by omega
          have HF : Hid (¬ ∀ i, i < ns.length → rightB (ns.getD i []) = true ∧ (ns.getD i []).length ≤ 4) := fun t => by
            have := (t k (by rw [HL.out]; exact hlt)).2
            rw [HR.out.2] at this
            omega
          clear HE HR
          go_wp2
          go_ret
          exact ⟨false, rfl, ⟨fun e => (by cases e), fun e => absurd e HF.out⟩, rfl⟩
        · have hq4i : decide ((4 : Int) < (q : Int)) = false := decide_eq_false (by omega)
          have HN : Hid (∀ j, j < k + 1 → rightB (ns.getD j []) = true ∧ (ns.getD j []).length ≤ 4) := fun j hj => by
            by_cases e : j = k
            · subst e
              exact ⟨HR.out.1.symm, by rw [HR.out.2]; omega⟩
            · exact HE.out j (by omega)
          clear HE HR
          go_wp2
          go_roundw
          case rel => exact ⟨k + 1, by omega, by go_num, HN, by first | rfl | trivial⟩
          case measure => simp [intOf]; omega
      | false =>
        have HF : Hid (¬ ∀ i, i < ns.length → rightB (ns.getD i []) = true ∧ (ns.getD i []).length ≤ 4) := fun t => by
          have := (t k (by rw [HL.out]; exact hlt)).1
          rw [← HR.out.1] at this
          cases this
        clear HE HR
        go_wp2
        go_ret
        exact ⟨false, rfl, ⟨fun e => (by cases e), fun e => absurd e HF.out⟩, rfl⟩
    · obtain rfl : k = l := by omega
      have HF : Hid (∀ i, i < ns.length → rightB (ns.getD i []) = true ∧ (ns.getD i []).length ≤ 4) := fun i hi => HE.out i (by rw [← HL.out]; exact hi)
      clear HE
      go_wp2
      go_ret
      exact ⟨true, rfl, ⟨fun _ => HF.out, fun _ => rfl⟩, rfl⟩
end Go.Proofs.Ytnbdbahfekneoaa

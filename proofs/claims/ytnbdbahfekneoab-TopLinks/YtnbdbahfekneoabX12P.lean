/-
  Contracts of the program's isUpTo, holds, areNumbers, rise, areNats (wire).
  The contract of the program's kinds (wire): a table of what each kind has.
  Contracts of the program's kindOf, hasNumbers, hasLists (wire).
  The contract of the program's Right (wire).
-/
import Derived.Test.YtnbdbahfekneoabW12A
import Derived.BigQuiet
import Derived.Deep.WholeRow
import Derived.Great.BuildSlice
import Derived.Test.YtnbdbahfekneoabW12B
import Derived.Deep.RegionWith
import Derived.BigRegion
import Derived.Test.YtnbdbahfekneoabR12G
namespace Go.Proofs.Ytnbdbahfekneoab
open Go.RowKit

def upB (n most : Int) : Bool := decide (0 ≤ n ∧ n ≤ most)
def inB (l m n : Int) : Bool := decide (l ≤ n ∧ n ≤ m)
set_option maxHeartbeats 800000 in
theorem x12up_any (n most : Int) (w : World) : Calls Try.prog 56 #[.int .i64 n, .int .i64 most] w fun e w' => e = .returned (.bool (upB n most)) ∧ w = w' := by
  by_cases h0 : 0 ≤ n
  · by_cases h1 : n ≤ most
    · have HE : Hid (true = upB n most) := (decide_eq_true ⟨h0, h1⟩).symm
      have h1d : decide (n ≤ most) = true := decide_eq_true h1
      have h0d : decide (0 ≤ n) = true := decide_eq_true h0
      go_enter Try.func56, Try.ntmps56
      go_wp2
      go_ret
      exact ⟨ret_bool HE.out, rfl⟩
    · have HE : Hid (false = upB n most) := (decide_eq_false (fun e => h1 e.2)).symm
      have h1d : decide (n ≤ most) = false := decide_eq_false h1
      have h0d : decide (0 ≤ n) = true := decide_eq_true h0
      clear h1
      go_enter Try.func56, Try.ntmps56
      go_wp2
      go_ret
      exact ⟨ret_bool HE.out, rfl⟩
  · have HE : Hid (false = upB n most) := (decide_eq_false (fun e => h0 e.1)).symm
    have h0d : decide (0 ≤ n) = false := decide_eq_false h0
    clear h0
    go_enter Try.func56, Try.ntmps56
    go_wp2
    go_ret
    exact ⟨ret_bool HE.out, rfl⟩
set_option maxHeartbeats 800000 in
theorem x12holds_any (l m n : Int) (w : World) : Calls Try.prog 57 #[.agg #[.int .i64 l, .int .i64 m], .int .i64 n] w fun e w' => e = .returned (.bool (inB l m n)) ∧ Below w.heap.size w w' := by
  have hB := balloc w (.cells #[.int .i64 l, .int .i64 m] 75)
  by_cases h0 : l ≤ n
  · by_cases h1 : n ≤ m
    · have HE : Hid (true = inB l m n) := (decide_eq_true ⟨h0, h1⟩).symm
      have h1d : decide (n ≤ m) = true := decide_eq_true h1
      have h0d : decide (l ≤ n) = true := decide_eq_true h0
      go_enter Try.func57, Try.ntmps57
      go_wp2
      go_ret
      exact ⟨ret_bool HE.out, hB⟩
    · have HE : Hid (false = inB l m n) := (decide_eq_false (fun e => h1 e.2)).symm
      have h1d : decide (n ≤ m) = false := decide_eq_false h1
      have h0d : decide (l ≤ n) = true := decide_eq_true h0
      clear h1
      go_enter Try.func57, Try.ntmps57
      go_wp2
      go_ret
      exact ⟨ret_bool HE.out, hB⟩
  · have HE : Hid (false = inB l m n) := (decide_eq_false (fun e => h0 e.1)).symm
    have h0d : decide (l ≤ n) = false := decide_eq_false h0
    clear h0
    go_enter Try.func57, Try.ntmps57
    go_wp2
    go_ret
    exact ⟨ret_bool HE.out, hB⟩
set_option maxRecDepth 20000 in
set_option maxHeartbeats 1600000 in
theorem x12nums_any (a : Option Addr) (l c : Nat) (xs : List Int) (w : World) (h : Lsts w a l c xs) : Calls Try.prog 35 #[.slice a l c] w fun e w' => ∃ r, e = .returned (.bool r) ∧ (r = true ↔ ∀ i, i < xs.length → 0 ≤ xs.getD i 0 ∧ xs.getD i 0 ≤ 1073741824) ∧ w = w' := by
  have hm := h.hmax
  have hc := h.hcap
  unfold maxLen at hm
  have HL : Hid (xs.length = l) := h.hlen
  have H : Hid (Lsts w a l c xs) := h
  clear h
  go_enter Try.func35, Try.ntmps35
  go_wp2
  go_loopw [7] (fun v7 wr => ∃ k : Nat, k ≤ l ∧ v7 = .int .i64 k ∧ Hid (∀ j, j < k → 0 ≤ xs.getD j 0 ∧ xs.getD j 0 ≤ 1073741824) ∧ w = wr) (fun v7 _ => l - (intOf v7).toNat)
  case atStart => exact ⟨0, by omega, rfl, fun j hj => by omega, rfl⟩
  case round =>
    obtain ⟨k, hk, rfl, HE, rfl⟩ := hrel
    by_cases hlt : k < l
    · have hlti : (k : Int) < (l : Int) := by omega
      obtain ⟨b1, o1, rfl, c1⟩ := H.out.cells (by omega)
      replace c1 := c1 k hlt
      obtain ⟨x, hx⟩ : ∃ x, x = xs.getD k 0 := ⟨_, rfl⟩
      rw [← hx] at c1
      have HX : Hid (x = xs.getD k 0) := hx
      have HC := (show Hid _ from x12up_any x 1073741824 w)
      obtain ⟨r, hr⟩ : ∃ r, r = upB x 1073741824 := ⟨_, rfl⟩
      rw [← hr] at HC
      have HR : Hid (r = upB x 1073741824) := hr
      clear hx hr
      go_wp2_with fail
      refine Calls.mono HC.out ?_
      rintro e w1 ⟨rfl, rfl⟩
      clear HC
      cases r with
      | true =>
        have HN : Hid (∀ j, j < k + 1 → 0 ≤ xs.getD j 0 ∧ xs.getD j 0 ≤ 1073741824) := fun j hj => by
          by_cases e : j = k
          · subst e
            rw [← HX.out]
            exact of_decide_eq_true HR.out.symm
          · exact HE.out j (by omega)
        clear HX HE HR
        go_wp2
        go_roundw
        case rel => exact ⟨k + 1, by omega, by go_num, HN, by first | rfl | trivial⟩
        case measure => simp [intOf]; omega
      | false =>
        have HF : Hid (¬ ∀ i, i < xs.length → 0 ≤ xs.getD i 0 ∧ xs.getD i 0 ≤ 1073741824) := fun q => by
          have := q k (by rw [HL.out]; exact hlt)
          rw [← HX.out] at this
          exact absurd this (of_decide_eq_false HR.out.symm)
        clear HX HE HR
        go_wp2
        go_ret
        exact ⟨false, rfl, ⟨fun e => (by cases e), fun e => absurd e HF.out⟩, rfl⟩
    · obtain rfl : k = l := by omega
      have HF : Hid (∀ i, i < xs.length → 0 ≤ xs.getD i 0 ∧ xs.getD i 0 ≤ 1073741824) := fun i hi => HE.out i (by rw [← HL.out]; exact hi)
      clear HE
      go_wp2
      go_ret
      exact ⟨true, rfl, ⟨fun _ => HF.out, fun _ => rfl⟩, rfl⟩
set_option maxRecDepth 20000 in
set_option maxHeartbeats 1600000 in
theorem x12rise_any (a : Option Addr) (l c : Nat) (xs : List Int) (w : World) (h : Lsts w a l c xs) : Calls Try.prog 36 #[.slice a l c] w fun e w' => ∃ r, e = .returned (.bool r) ∧ (r = true ↔ ∀ i, i < xs.length → 0 < i → xs.getD (i - 1) 0 < xs.getD i 0) ∧ Below w.heap.size w w' := by
  have hm := h.hmax
  have hc := h.hcap
  unfold maxLen at hm
  have HL : Hid (xs.length = l) := h.hlen
  have H : Hid (Lsts w a l c xs) := h
  clear h
  go_enter Try.func36, Try.ntmps36
  go_wp2
  go_loopw [6] (fun v6 wr => ∃ k : Nat, k ≤ l ∧ v6 = .int .i64 k ∧ Hid (∀ j, j < k → 0 < j → xs.getD (j - 1) 0 < xs.getD j 0) ∧ Below w.heap.size w wr) (fun v6 _ => l - (intOf v6).toNat)
  case atStart => exact ⟨0, by omega, rfl, fun j hj => by omega, Below.refl _ _⟩
  case round =>
    obtain ⟨k, hk, rfl, HE, hb⟩ := hrel
    by_cases hlt : k < l
    · have hlti : (k : Int) < (l : Int) := by omega
      by_cases hk0 : k = 0
      · subst hk0
        have HN : Hid (∀ j, j < 0 + 1 → 0 < j → xs.getD (j - 1) 0 < xs.getD j 0) := fun j h1 h2 => by omega
        clear HE
        go_wp2
        go_quiet (fail)
        go_wp2
        go_roundw
        case rel => exact ⟨0 + 1, by omega, by go_num, HN, below_drewN hb _⟩
        case measure => simp [intOf]; omega
      obtain ⟨m, rfl⟩ : ∃ m, k = m + 1 := ⟨k - 1, by omega⟩
      obtain ⟨K, hK⟩ : ∃ K, K = m + 1 := ⟨_, rfl⟩
      rw [← hK] at HE hlt hlti hk ⊢
      have hK1 : (K : Int) - 1 = (m : Int) := by omega
      have hK0 : (0 : Int) < (K : Int) := by omega
      have hK0n : 0 < K := by omega
      have hm0 : (0 : Int) ≤ (m : Int) := by omega
      have hml : (m : Int) < (l : Int) := by omega
      obtain ⟨b1, o1, rfl, c1⟩ := (H.out.below hb).cells (by omega)
      have c2 := c1 m (by omega)
      replace c1 := c1 K hlt
      obtain ⟨x, hx⟩ : ∃ x, x = xs.getD K 0 := ⟨_, rfl⟩
      obtain ⟨y, hy⟩ : ∃ y, y = xs.getD m 0 := ⟨_, rfl⟩
      rw [← hx] at c1
      rw [← hy] at c2
      have HX : Hid (x = xs.getD K 0 ∧ y = xs.getD m 0 ∧ K = m + 1) := ⟨hx, hy, hK⟩
      clear hx hy hK
      by_cases hxy : x ≤ y
      · have hxd : decide (x ≤ y) = true := decide_eq_true hxy
        have HF : Hid (¬ ∀ i, i < xs.length → 0 < i → xs.getD (i - 1) 0 < xs.getD i 0) := fun q => by
          have := q K (by rw [HL.out]; exact hlt) hK0n
          rw [show K - 1 = m by rw [HX.out.2.2]; rfl, ← HX.out.1, ← HX.out.2.1] at this
          omega
        clear HX HE hxy
        go_wp2
        go_quiet (fail)
        go_wp2
        go_ret
        exact ⟨false, rfl, ⟨fun e => (by cases e), fun e => absurd e HF.out⟩, below_drewN hb _⟩
      · have hxd : decide (x ≤ y) = false := decide_eq_false hxy
        have HN : Hid (∀ j, j < K + 1 → 0 < j → xs.getD (j - 1) 0 < xs.getD j 0) := fun j h1 h2 => by
          by_cases e : j = K
          · subst e
            rw [show j - 1 = m by rw [HX.out.2.2]; rfl, ← HX.out.1, ← HX.out.2.1]
            omega
          · exact HE.out j (by omega) h2
        clear HX HE hxy
        go_wp2
        go_quiet (fail)
        go_wp2
        go_roundw
        case rel => exact ⟨K + 1, by omega, by go_num, HN, below_drewN hb _⟩
        case measure => simp [intOf]; omega
    · obtain rfl : k = l := by omega
      have HF : Hid (∀ i, i < xs.length → 0 < i → xs.getD (i - 1) 0 < xs.getD i 0) := fun i hi => HE.out i (by rw [← HL.out]; exact hi)
      clear HE
      go_wp2
      go_ret
      exact ⟨true, rfl, ⟨fun _ => HF.out, fun _ => rfl⟩, hb⟩
set_option maxRecDepth 20000 in
set_option maxHeartbeats 1600000 in
theorem x12nats_any (a : Option Addr) (l c : Nat) (ns : List (List Int)) (w : World) (h : NRow w a l c ns) : Calls Try.prog 37 #[.slice a l c] w fun e w' => ∃ r, e = .returned (.bool r) ∧ (r = true ↔ ∀ i, i < ns.length → rightB (ns.getD i []) = true ∧ (ns.getD i []).length ≤ 4) ∧ w = w' := by
  have hm := h.hmax
  have hc := h.hcap
  unfold maxLen at hm
  have HL : Hid (ns.length = l) := h.hlen
  have H : Hid (NRow w a l c ns) := h
  clear h
  go_enter Try.func37, Try.ntmps37
  go_wp2
  go_loopw [7] (fun v7 wr => ∃ k : Nat, k ≤ l ∧ v7 = .int .i64 k ∧ Hid (∀ j, j < k → rightB (ns.getD j []) = true ∧ (ns.getD j []).length ≤ 4) ∧ w = wr) (fun v7 _ => l - (intOf v7).toNat)
  case atStart => exact ⟨0, by omega, rfl, fun j hj => by omega, rfl⟩
  case round =>
    obtain ⟨k, hk, rfl, HE, rfl⟩ := hrel
    by_cases hlt : k < l
    · have hlti : (k : Int) < (l : Int) := by omega
      obtain ⟨b1, o1, rfl, c1⟩ := H.out.cells (by omega)
      obtain ⟨p, q, cq, c2, hN⟩ := c1 k hlt
      clear c1
      have hql := hN.hlen
      have hqc := hN.hcap
      have hqm := hN.hmax
      unfold maxLen at hqm
      have HC := (show Hid _ from right_any p q cq _ w hN)
      obtain ⟨r, hr⟩ : ∃ r, r = rightB (ns.getD k []) := ⟨_, rfl⟩
      rw [← hr] at HC
      have HR : Hid (r = rightB (ns.getD k []) ∧ (ns.getD k []).length = q) := ⟨hr, hql⟩
      clear hr hql hN
      go_wp2_with fail
      refine Calls.mono HC.out ?_
      rintro e w1 ⟨rfl, rfl⟩
      clear HC
      cases r with
      | true =>
        by_cases hq4 : 4 < q
        · have hq4i : (4 : Int) < (q : Int) := by omega
          have HF : Hid (¬ ∀ i, i < ns.length → rightB (ns.getD i []) = true ∧ (ns.getD i []).length ≤ 4) := fun t => by
            have := (t k (by rw [HL.out]; exact hlt)).2
            rw [HR.out.2] at this
            omega
          clear HE HR
          go_wp2
          go_ret
          exact ⟨false, rfl, ⟨fun e => (by cases e), fun e => absurd e HF.out⟩, rfl⟩
        · have hq4i : decide ((4 : Int) < (q : Int)) = false := decide_eq_false (by omega)
          have HN : Hid (∀ j, j < k + 1 → rightB (ns.getD j []) = true ∧ (ns.getD j []).length ≤ 4) := fun j hj => by
            by_cases e : j = k
            · subst e
              exact ⟨HR.out.1.symm, by rw [HR.out.2]; omega⟩
            · exact HE.out j (by omega)
          clear HE HR
          go_wp2
          go_roundw
          case rel => exact ⟨k + 1, by omega, by go_num, HN, by first | rfl | trivial⟩
          case measure => simp [intOf]; omega
      | false =>
        have HF : Hid (¬ ∀ i, i < ns.length → rightB (ns.getD i []) = true ∧ (ns.getD i []).length ≤ 4) := fun t => by
          have := (t k (by rw [HL.out]; exact hlt)).1
          rw [← HR.out.1] at this
          cases this
        clear HE HR
        go_wp2
        go_ret
        exact ⟨false, rfl, ⟨fun e => (by cases e), fun e => absurd e HF.out⟩, rfl⟩
    · obtain rfl : k = l := by omega
      have HF : Hid (∀ i, i < ns.length → rightB (ns.getD i []) = true ∧ (ns.getD i []).length ≤ 4) := fun i hi => HE.out i (by rw [← HL.out]; exact hi)
      clear HE
      go_wp2
      go_ret
      exact ⟨true, rfl, ⟨fun _ => HF.out, fun _ => rfl⟩, rfl⟩
end Go.Proofs.Ytnbdbahfekneoab

namespace Go.Proofs.Ytnbdbahfekneoab
open Go.RowKit

/-- What each kind has, one behind the other. -/
def kindL0 : List Value := [.int .i64 0, .int .i64 0, .int .i64 0, .int .i64 0, .int .i64 0, .int .i64 0, .int .i64 0, .int .i64 0, .int .i64 0, .bool false]
def kindL1 : List Value := [.int .i64 1073741824, .int .i64 1073741824, .int .i64 0, .int .i64 0, .int .i64 0, .int .i64 0, .int .i64 0, .int .i64 1, .int .i64 1, .bool false]
def kindL2 : List Value := [.int .i64 1073741824, .int .i64 1073741824, .int .i64 0, .int .i64 0, .int .i64 0, .int .i64 0, .int .i64 0, .int .i64 0, .int .i64 0, .bool false]
def kindL3 : List Value := [.int .i64 1073741824, .int .i64 0, .int .i64 0, .int .i64 0, .int .i64 0, .int .i64 0, .int .i64 0, .int .i64 0, .int .i64 16384, .bool false]
def kindL4 : List Value := [.int .i64 1073741824, .int .i64 1073741824, .int .i64 0, .int .i64 0, .int .i64 0, .int .i64 0, .int .i64 16384, .int .i64 0, .int .i64 0, .bool false]
def kindL5 : List Value := [.int .i64 1073741824, .int .i64 1073741824, .int .i64 0, .int .i64 0, .int .i64 16384, .int .i64 0, .int .i64 0, .int .i64 0, .int .i64 16384, .bool true]
def kindL6 : List Value := [.int .i64 1073741824, .int .i64 1073741824, .int .i64 0, .int .i64 1, .int .i64 16384, .int .i64 0, .int .i64 0, .int .i64 0, .int .i64 0, .bool false]
def kindL7 : List Value := [.int .i64 1073741824, .int .i64 1073741824, .int .i64 1073741824, .int .i64 0, .int .i64 0, .int .i64 0, .int .i64 16384, .int .i64 0, .int .i64 0, .bool false]
def kindL8 : List Value := [.int .i64 1073741824, .int .i64 1073741824, .int .i64 0, .int .i64 0, .int .i64 0, .int .i64 0, .int .i64 0, .int .i64 0, .int .i64 0, .bool false]
def kindL9 : List Value := [.int .i64 1073741824, .int .i64 1073741824, .int .i64 1, .int .i64 0, .int .i64 0, .int .i64 0, .int .i64 0, .int .i64 0, .int .i64 0, .bool false]
def kindL10 : List Value := [.int .i64 1073741824, .int .i64 0, .int .i64 0, .int .i64 0, .int .i64 0, .int .i64 0, .int .i64 0, .int .i64 0, .int .i64 0, .bool false]
def kindL11 : List Value := [.int .i64 1073741824, .int .i64 0, .int .i64 0, .int .i64 0, .int .i64 0, .int .i64 0, .int .i64 0, .int .i64 0, .int .i64 0, .bool false]
def kindsA : Array Value := (kindL0 ++ kindL1 ++ kindL2 ++ kindL3 ++ kindL4 ++ kindL5 ++ kindL6 ++ kindL7 ++ kindL8 ++ kindL9 ++ kindL10 ++ kindL11).toArray
theorem kinds_size : kindsA.size = 120 := by rfl
theorem kinds_one : kindsA.all (·.oneCell') = true := by kernel_rfl
theorem zeros12_size : Try.zeroCells101.size = 120 := by kernel_rfl
set_option maxRecDepth 100000 in
set_option maxHeartbeats 3200000 in
theorem x12kinds_any (w : World) : Calls Try.prog 55 #[] w fun e w' => e = .returned (.agg kindsA) ∧ Below w.heap.size w w' := by
  have HI : (Try.prog.info? 101).map (·.size) = some kindsA.size := by kernel_rfl
  have B1 := balloc w (.cells Try.zeroCells101 101)
  have N1 : (w.alloc (.cells Try.zeroCells101 101)).heap[w.heap.size]? = some (.cells Try.zeroCells101 101 (0, 0)) := heap_alloc_new _ _
  have HG := setRow_heap (w.alloc (.cells Try.zeroCells101 101)) w.heap.size _ kindsA 101 (0, 0) N1
  have HB : Hid (Below w.heap.size w ((w.alloc (.cells Try.zeroCells101 101)).setRow w.heap.size kindsA)) := below_setRow B1 (Nat.le_refl _) _
  have hs : Try.zeroCells101.size = kindsA.size := by rw [kinds_size, zeros12_size]
  clear B1
  go_enter Try.func55, Try.ntmps55
  go_wp2_with (first
    | refine wpList_buildTo rfl 101 _ rfl _ rfl kindsA (by kernel_rfl) ?_
    | refine wpList_store_rowTo rfl 101 _ _ rfl rfl w.heap.size kindsA rfl rfl 101 _ N1 HI hs kinds_one ?_)
  refine bodyPost_ret (results_cell_row rfl _ _ w.heap.size 101 kindsA (0, 0) _ rfl HG Try.underlying101 rfl HI) rfl ?_
  exact ⟨rfl, HB.out⟩
end Go.Proofs.Ytnbdbahfekneoab

namespace Go.Proofs.Ytnbdbahfekneoab
open Go.RowKit

/-- What a kind has: the most of A, B, C; of each list how many. -/
def kA (k : Nat) : Int := if k = 0 then 0 else 1073741824
def kB (k : Nat) : Int := if k = 0 ∨ k = 3 ∨ k = 10 ∨ k = 11 then 0 else 1073741824
def kC (k : Nat) : Int := if k = 7 then 1073741824 else if k = 9 then 1 else 0
def kIl (k : Nat) : Int := if k = 6 then 1 else 0
def kIm (k : Nat) : Int := if k = 5 ∨ k = 6 then 16384 else 0
def kRm (k : Nat) : Int := if k = 4 ∨ k = 7 then 16384 else 0
def kNl (k : Nat) : Int := if k = 1 then 1 else 0
def kNm (k : Nat) : Int := if k = 1 then 1 else if k = 3 ∨ k = 5 then 16384 else 0
def kP (k : Nat) : Bool := decide (k = 5)
def kindR (k : Nat) : Array Value := #[.int .i64 (kA k), .int .i64 (kB k), .int .i64 (kC k), .int .i64 (kIl k), .int .i64 (kIm k), .int .i64 0, .int .i64 (kRm k), .int .i64 (kNl k), .int .i64 (kNm k), .bool (kP k)]
theorem run_kinds_all (w : World) : ((List.range 12).map fun (K : Nat) => (Instr.index 101 (.agg kindsA) (.int .i64 (K : Int))).run Try.prog w) = (List.range 12).map (fun (K : Nat) => .ok (.agg (kindR K)) w) := by kernel_rfl
theorem run_kinds (w : World) (K : Nat) (hK : K < 12) : (Instr.index 101 (.agg kindsA) (.int .i64 (K : Int))).run Try.prog w = .ok (.agg (kindR K)) w := by
  have h := congrArg (fun l => l[K]?) (run_kinds_all w)
  simpa [List.getElem?_map, List.getElem?_range, hK] using h
theorem cells10 {w : World} {g : Nat} {x0 x1 x2 x3 x4 x5 x6 x7 x8 x9 : Value} {t : TypeId} (h : w.heap[g]? = some (.cells #[x0, x1, x2, x3, x4, x5, x6, x7, x8, x9] t (0, 0))) :
    (w.cell? ⟨g, 0, none⟩ = some x0 ∧ w.cell? ⟨g, 1, none⟩ = some x1 ∧ w.cell? ⟨g, 2, none⟩ = some x2 ∧ w.cell? ⟨g, 3, none⟩ = some x3 ∧ w.cell? ⟨g, 4, none⟩ = some x4 ∧ w.cell? ⟨g, 5, none⟩ = some x5 ∧ w.cell? ⟨g, 6, none⟩ = some x6 ∧ w.cell? ⟨g, 7, none⟩ = some x7 ∧ w.cell? ⟨g, 8, none⟩ = some x8 ∧ w.cell? ⟨g, 9, none⟩ = some x9) ∧ ∀ j, w.frozen? ⟨g, j, none⟩ = false := by
  refine ⟨⟨?_, ?_, ?_, ?_, ?_, ?_, ?_, ?_, ?_, ?_⟩, fun j => frozen_of_row w g j _ _ h⟩ <;> (rw [cell_of_row w g _ _ _ _ h]; rfl)

theorem below_put10 {B g : Nat} {w w3 : World} (h : Below B w w3) (hg : B ≤ g) (v0 v1 v2 v3 v4 v5 v6 v7 v8 v9 : Value) : Below B w ((((((((((w3.setCell ⟨g, 0, none⟩ v0).setCell ⟨g, 1, none⟩ v1).setCell ⟨g, 2, none⟩ v2).setCell ⟨g, 3, none⟩ v3).setCell ⟨g, 4, none⟩ v4).setCell ⟨g, 5, none⟩ v5).setCell ⟨g, 6, none⟩ v6).setCell ⟨g, 7, none⟩ v7).setCell ⟨g, 8, none⟩ v8).setCell ⟨g, 9, none⟩ v9) := by
  refine Below.setCell (p := ⟨g, 9, none⟩) ?_ hg _
  refine Below.setCell (p := ⟨g, 8, none⟩) ?_ hg _
  refine Below.setCell (p := ⟨g, 7, none⟩) ?_ hg _
  refine Below.setCell (p := ⟨g, 6, none⟩) ?_ hg _
  refine Below.setCell (p := ⟨g, 5, none⟩) ?_ hg _
  refine Below.setCell (p := ⟨g, 4, none⟩) ?_ hg _
  refine Below.setCell (p := ⟨g, 3, none⟩) ?_ hg _
  refine Below.setCell (p := ⟨g, 2, none⟩) ?_ hg _
  refine Below.setCell (p := ⟨g, 1, none⟩) ?_ hg _
  exact h.setCell (p := ⟨g, 0, none⟩) hg _

set_option maxRecDepth 100000 in
set_option maxHeartbeats 3200000 in
theorem x12of_any (K : Nat) (a b c : Int) (pi : Option Addr) (li ci : Nat) (pr : Option Addr) (lr cr : Nat) (pn : Option Addr) (ln cn : Nat) (w : World) (h1 : 1 ≤ K) (h2 : K ≤ 11) :
    Calls Try.prog 32 #[.agg #[.int .i64 (K : Int), .int .i64 a, .int .i64 b, .int .i64 c, .slice pi li ci, .slice pr lr cr, .slice pn ln cn]] w fun e w' => e = .returned (.tuple #[.agg (kindR K), .bool true]) ∧ Below w.heap.size w w' := by
  have hk1 : decide ((K : Int) < 1) = false := decide_eq_false (by omega)
  have hk2 : decide (11 < (K : Int)) = false := decide_eq_false (by omega)
  have hK : K < 12 := by omega
  have B1 := balloc w (.cells #[.int .i64 (K : Int), .int .i64 a, .int .i64 b, .int .i64 c, .slice pi li ci, .slice pr lr cr, .slice pn ln cn] 31)
  have c0 : (w.alloc (.cells #[.int .i64 (K : Int), .int .i64 a, .int .i64 b, .int .i64 c, .slice pi li ci, .slice pr lr cr, .slice pn ln cn] 31)).cell? ⟨w.heap.size, 0, none⟩ = some (.int .i64 (K : Int)) := by simp
  obtain ⟨W1, hW1⟩ : ∃ W1, W1 = w.alloc (.cells #[.int .i64 (K : Int), .int .i64 a, .int .i64 b, .int .i64 c, .slice pi li ci, .slice pr lr cr, .slice pn ln cn] 31) := ⟨_, rfl⟩
  rw [← hW1] at B1 c0
  obtain ⟨V, hV⟩ : ∃ V, V = W1.alloc (.cells #[.int .i64 0, .int .i64 0, .int .i64 0, .int .i64 0, .int .i64 0, .int .i64 0, .int .i64 0, .int .i64 0, .int .i64 0, .bool false] 77) := ⟨_, rfl⟩
  have B2 : Below W1.heap.size W1 V := by rw [hV]; exact balloc _ _
  have n1 : V.heap[W1.heap.size]? = some (.cells #[.int .i64 0, .int .i64 0, .int .i64 0, .int .i64 0, .int .i64 0, .int .i64 0, .int .i64 0, .int .i64 0, .int .i64 0, .bool false] 77 (0, 0)) := by rw [hV]; exact heap_alloc_new _ _
  have hVs : W1.heap.size < V.heap.size := by rw [hV]; simp
  have hs1 : W1.heap.size = w.heap.size + 1 := by rw [hW1]; simp
  have c0V := bkeep B2 c0 rfl
  have B12 := bthen B1 B2
  obtain ⟨g, hg⟩ : ∃ g, g = W1.heap.size := ⟨_, rfl⟩
  rw [← hg] at n1 hVs hs1
  have HC : Hid (∀ wx : World, wx.heap = V.heap → wx.os = V.os → wx.tape = V.tape → wx.output = V.output → Calls Try.prog 55 #[] wx fun e w' => e = .returned (.agg kindsA) ∧ w'.cell? ⟨w.heap.size, 0, none⟩ = some (.int .i64 (K : Int)) ∧ w'.heap[g]? = some (.cells #[.int .i64 0, .int .i64 0, .int .i64 0, .int .i64 0, .int .i64 0, .int .i64 0, .int .i64 0, .int .i64 0, .int .i64 0, .bool false] 77 (0, 0)) ∧ Below w.heap.size w w') := fun wx y1 y2 y3 y4 => by
    refine (x12kinds_any wx).mono ?_
    rintro e w' ⟨rfl, hb⟩
    have hbV : Below V.heap.size V w' := ⟨hb.os.trans y2, hb.tape.trans y3, hb.output.trans y4, by rw [← y1]; exact hb.size, fun k hk => by rw [hb.block k (by rw [y1]; exact hk), y1]⟩
    exact ⟨rfl, bkeep hbV c0V rfl, (hbV.block g hVs).trans n1, bthen B12 hbV⟩
  have HK := fun w : World => run_kinds w K hK
  obtain ⟨kS, hkS⟩ : ∃ kS, kS = kindsA := ⟨_, rfl⟩
  rw [← hkS] at HK HC
  unfold kindR at HK ⊢
  have HH : Hid (V = W1.alloc (.cells #[.int .i64 0, .int .i64 0, .int .i64 0, .int .i64 0, .int .i64 0, .int .i64 0, .int .i64 0, .int .i64 0, .int .i64 0, .bool false] 77) ∧ W1 = w.alloc (.cells #[.int .i64 (K : Int), .int .i64 a, .int .i64 b, .int .i64 c, .slice pi li ci, .slice pr lr cr, .slice pn ln cn] 31) ∧ g = w.heap.size + 1 ∧ w.heap.size ≤ g) := ⟨hV, hW1, hs1, by omega⟩
  clear h1 h2 hV hW1 hkS B1 B2 B12 c0 hVs hs1 hg n1 hK
  generalize kA K = x0 at *
  generalize kB K = x1 at *
  generalize kC K = x2 at *
  generalize kIl K = x3 at *
  generalize kIm K = x4 at *
  generalize kRm K = x6 at *
  generalize kNl K = x7 at *
  generalize kNm K = x8 at *
  generalize kP K = x9 at *
  go_enter Try.func32, Try.ntmps32
  go_wp2_with fail
  rw [← HH.out.2.1, ← HH.out.1, ← HH.out.2.2.1]
  go_region_with (first
      | (go_at_call 55; with_reducible refine Calls.mono (HC.out _ rfl rfl rfl rfl) ?_; rintro e w3 ⟨rfl, d0, hq, hb3⟩; obtain ⟨⟨r0, r1, r2, r3, r4, r5, r6, r7, r8, r9⟩, fz⟩ := cells10 hq; (have f0 := fz 0; have f1 := fz 1; have f2 := fz 2; have f3 := fz 3; have f4 := fz 4; have f5 := fz 5; have f6 := fz 6; have f7 := fz 7; have f8 := fz 8; have f9 := fz 9); clear fz hq))
  all_goals
    have HBp : Hid (∀ v0 v1 v2 v3 v4 v5 v6 v7 v8 v9 : Value, Below w.heap.size w ((((((((((w3.setCell ⟨g, 0, none⟩ v0).setCell ⟨g, 1, none⟩ v1).setCell ⟨g, 2, none⟩ v2).setCell ⟨g, 3, none⟩ v3).setCell ⟨g, 4, none⟩ v4).setCell ⟨g, 5, none⟩ v5).setCell ⟨g, 6, none⟩ v6).setCell ⟨g, 7, none⟩ v7).setCell ⟨g, 8, none⟩ v8).setCell ⟨g, 9, none⟩ v9)) := fun v0 v1 v2 v3 v4 v5 v6 v7 v8 v9 => below_put10 hb3 HH.out.2.2.2 v0 v1 v2 v3 v4 v5 v6 v7 v8 v9
    clear HC hb3 HH HK
    go_wp2_with fail
    refine bodyPost_ret (v := .tuple #[.agg #[.int .i64 x0, .int .i64 x1, .int .i64 x2, .int .i64 x3, .int .i64 x4, .int .i64 0, .int .i64 x6, .int .i64 x7, .int .i64 x8, .bool x9], .bool true]) (by simp [results, Try.results32, go_sem, r0, r1, r2, r3, r4, r5, r6, r7, r8, r9]) rfl ?_
    exact ⟨rfl, by first | exact HBp.out _ _ _ _ _ _ _ _ _ _ | (have h := HBp.out _ _ _ _ _ _ _ _ _ _; exact ⟨h.os, h.tape, h.output, h.size, h.block⟩)⟩
set_option maxRecDepth 100000 in
set_option maxHeartbeats 3200000 in
theorem x12no_any (k a b c : Int) (pi : Option Addr) (li ci : Nat) (pr : Option Addr) (lr cr : Nat) (pn : Option Addr) (ln cn : Nat) (w : World) (h : k < 1 ∨ 11 < k) :
    Calls Try.prog 32 #[.agg #[.int .i64 k, .int .i64 a, .int .i64 b, .int .i64 c, .slice pi li ci, .slice pr lr cr, .slice pn ln cn]] w fun e w' => e = .returned (.tuple #[.agg #[.int .i64 0, .int .i64 0, .int .i64 0, .int .i64 0, .int .i64 0, .int .i64 0, .int .i64 0, .int .i64 0, .int .i64 0, .bool false], .bool false]) ∧ Below w.heap.size w w' := by
  have B1 := balloc w (.cells #[.int .i64 k, .int .i64 a, .int .i64 b, .int .i64 c, .slice pi li ci, .slice pr lr cr, .slice pn ln cn] 31)
  have c0 : (w.alloc (.cells #[.int .i64 k, .int .i64 a, .int .i64 b, .int .i64 c, .slice pi li ci, .slice pr lr cr, .slice pn ln cn] 31)).cell? ⟨w.heap.size, 0, none⟩ = some (.int .i64 k) := by simp
  obtain ⟨W1, hW1⟩ : ∃ W1, W1 = w.alloc (.cells #[.int .i64 k, .int .i64 a, .int .i64 b, .int .i64 c, .slice pi li ci, .slice pr lr cr, .slice pn ln cn] 31) := ⟨_, rfl⟩
  rw [← hW1] at B1 c0
  obtain ⟨V, hV⟩ : ∃ V, V = W1.alloc (.cells #[.int .i64 0, .int .i64 0, .int .i64 0, .int .i64 0, .int .i64 0, .int .i64 0, .int .i64 0, .int .i64 0, .int .i64 0, .bool false] 77) := ⟨_, rfl⟩
  have B2 : Below W1.heap.size W1 V := by rw [hV]; exact balloc _ _
  have n1 : V.heap[W1.heap.size]? = some (.cells #[.int .i64 0, .int .i64 0, .int .i64 0, .int .i64 0, .int .i64 0, .int .i64 0, .int .i64 0, .int .i64 0, .int .i64 0, .bool false] 77 (0, 0)) := by rw [hV]; exact heap_alloc_new _ _
  have hs1 : W1.heap.size = w.heap.size + 1 := by rw [hW1]; simp
  replace c0 := bkeep B2 c0 rfl
  have B12 := bthen B1 B2
  obtain ⟨g, hg⟩ : ∃ g, g = W1.heap.size := ⟨_, rfl⟩
  rw [← hg] at n1 hs1
  have HH : Hid (V = W1.alloc (.cells #[.int .i64 0, .int .i64 0, .int .i64 0, .int .i64 0, .int .i64 0, .int .i64 0, .int .i64 0, .int .i64 0, .int .i64 0, .bool false] 77) ∧ W1 = w.alloc (.cells #[.int .i64 k, .int .i64 a, .int .i64 b, .int .i64 c, .slice pi li ci, .slice pr lr cr, .slice pn ln cn] 31) ∧ g = w.heap.size + 1 ∧ w.heap.size ≤ g) := ⟨hV, hW1, hs1, by omega⟩
  have HB : Hid (∀ v0 v1 v2 v3 v4 v5 v6 v7 v8 v9 : Value, Below w.heap.size w ((((((((((V.setCell ⟨g, 0, none⟩ v0).setCell ⟨g, 1, none⟩ v1).setCell ⟨g, 2, none⟩ v2).setCell ⟨g, 3, none⟩ v3).setCell ⟨g, 4, none⟩ v4).setCell ⟨g, 5, none⟩ v5).setCell ⟨g, 6, none⟩ v6).setCell ⟨g, 7, none⟩ v7).setCell ⟨g, 8, none⟩ v8).setCell ⟨g, 9, none⟩ v9)) := fun v0 v1 v2 v3 v4 v5 v6 v7 v8 v9 => below_put10 B12 HH.out.2.2.2 v0 v1 v2 v3 v4 v5 v6 v7 v8 v9
  obtain ⟨⟨r0, r1, r2, r3, r4, r5, r6, r7, r8, r9⟩, fz⟩ := cells10 n1
  have f0 := fz 0
  have f1 := fz 1
  have f2 := fz 2
  have f3 := fz 3
  have f4 := fz 4
  have f5 := fz 5
  have f6 := fz 6
  have f7 := fz 7
  have f8 := fz 8
  have f9 := fz 9
  clear B1 B2 B12 hV hW1 hs1 hg n1 fz
  by_cases h1 : k < 1
  · have hk1 : decide (k < 1) = true := decide_eq_true h1
    go_enter Try.func32, Try.ntmps32
    go_upto_region 1 with fail
    rw [← HH.out.2.1, ← HH.out.1, ← HH.out.2.2.1]
    go_wp2_with fail
    refine bodyPost_ret (v := .tuple #[.agg #[.int .i64 0, .int .i64 0, .int .i64 0, .int .i64 0, .int .i64 0, .int .i64 0, .int .i64 0, .int .i64 0, .int .i64 0, .bool false], .bool false]) (by simp [results, Try.results32, go_sem, r0, r1, r2, r3, r4, r5, r6, r7, r8, r9]) rfl ?_
    exact ⟨rfl, HB.out _ _ _ _ _ _ _ _ _ _⟩
  · have hk1 : decide (k < 1) = false := decide_eq_false h1
    have h2 : 11 < k := by omega
    have hk2 : decide (11 < k) = true := decide_eq_true h2
    go_enter Try.func32, Try.ntmps32
    go_upto_region 1 with fail
    rw [← HH.out.2.1, ← HH.out.1, ← HH.out.2.2.1]
    go_wp2_with fail
    refine bodyPost_ret (v := .tuple #[.agg #[.int .i64 0, .int .i64 0, .int .i64 0, .int .i64 0, .int .i64 0, .int .i64 0, .int .i64 0, .int .i64 0, .int .i64 0, .bool false], .bool false]) (by simp [results, Try.results32, go_sem, r0, r1, r2, r3, r4, r5, r6, r7, r8, r9]) rfl ?_
    exact ⟨rfl, HB.out _ _ _ _ _ _ _ _ _ _⟩

set_option maxRecDepth 100000 in
set_option maxHeartbeats 3200000 in
theorem x12hn_any (ka kb kc il im rl rm nl nm : Int) (p : Bool) (k a b c : Int) (pi : Option Addr) (li ci : Nat) (pr : Option Addr) (lr cr : Nat) (pn : Option Addr) (ln cn : Nat) (w : World) :
    Calls Try.prog 33 #[.agg #[.int .i64 ka, .int .i64 kb, .int .i64 kc, .int .i64 il, .int .i64 im, .int .i64 rl, .int .i64 rm, .int .i64 nl, .int .i64 nm, .bool p], .agg #[.int .i64 k, .int .i64 a, .int .i64 b, .int .i64 c, .slice pi li ci, .slice pr lr cr, .slice pn ln cn]] w fun e w' => e = .returned (.bool (upB a ka && upB b kb && upB c kc)) ∧ Below w.heap.size w w' := by
  obtain ⟨r1, h1⟩ : ∃ r1, r1 = upB a ka := ⟨_, rfl⟩
  obtain ⟨r2, h2⟩ : ∃ r1, r1 = upB b kb := ⟨_, rfl⟩
  obtain ⟨r3, h3⟩ : ∃ r1, r1 = upB c kc := ⟨_, rfl⟩
  have H1 : Hid (∀ w : World, Calls Try.prog 56 #[.int .i64 a, .int .i64 ka] w fun e w' => e = .returned (.bool r1) ∧ w = w') := by rw [h1]; exact x12up_any a ka
  have H2 : Hid (∀ w : World, Calls Try.prog 56 #[.int .i64 b, .int .i64 kb] w fun e w' => e = .returned (.bool r2) ∧ w = w') := by rw [h2]; exact x12up_any b kb
  have H3 : Hid (∀ w : World, Calls Try.prog 56 #[.int .i64 c, .int .i64 kc] w fun e w' => e = .returned (.bool r3) ∧ w = w') := by rw [h3]; exact x12up_any c kc
  rw [← h1, ← h2, ← h3]
  have B1 := balloc w (.cells #[.int .i64 ka, .int .i64 kb, .int .i64 kc, .int .i64 il, .int .i64 im, .int .i64 rl, .int .i64 rm, .int .i64 nl, .int .i64 nm, .bool p] 77)
  have B2 := balloc (w.alloc (.cells #[.int .i64 ka, .int .i64 kb, .int .i64 kc, .int .i64 il, .int .i64 im, .int .i64 rl, .int .i64 rm, .int .i64 nl, .int .i64 nm, .bool p] 77)) (.cells #[.int .i64 k, .int .i64 a, .int .i64 b, .int .i64 c, .slice pi li ci, .slice pr lr cr, .slice pn ln cn] 31)
  have HB := (show Hid _ from bthen B1 B2)
  clear B1 B2 h1 h2 h3
  cases r1 with
  | false =>
    go_enter Try.func33, Try.ntmps33
    go_wp2_with fail
    refine Calls.mono (H1.out _) ?_
    rintro e w1 ⟨rfl, rfl⟩
    clear H1 H2 H3
    go_wp2
    go_ret
    exact ⟨rfl, HB.out⟩
  | true =>
    go_enter Try.func33, Try.ntmps33
    go_wp2_with fail
    refine Calls.mono (H1.out _) ?_
    rintro e w1 ⟨rfl, rfl⟩
    clear H1
    go_wp2_with fail
    refine Calls.mono (H2.out _) ?_
    rintro e w1 ⟨rfl, rfl⟩
    clear H2
    cases r2 with
    | false =>
      clear H3
      go_wp2
      go_ret
      exact ⟨rfl, HB.out⟩
    | true =>
      go_wp2_with fail
      refine Calls.mono (H3.out _) ?_
      rintro e w1 ⟨rfl, rfl⟩
      clear H3
      go_wp2
      go_ret
      exact ⟨by simp, HB.out⟩

/-- What a kind has, in memory. -/
def KAt (w : World) (g : Nat) (ka kb kc il im rl rm nl nm : Int) (p : Bool) : Prop := w.heap[g]? = some (.cells #[.int .i64 ka, .int .i64 kb, .int .i64 kc, .int .i64 il, .int .i64 im, .int .i64 rl, .int .i64 rm, .int .i64 nl, .int .i64 nm, .bool p] 77 (0, 0))
theorem KAt.lt {w : World} {g : Nat} {ka kb kc il im rl rm nl nm : Int} {p : Bool} (h : KAt w g ka kb kc il im rl rm nl nm p) : g < w.heap.size := (Array.getElem?_eq_some_iff.1 h).1
theorem KAt.below {w w' : World} {g : Nat} {ka kb kc il im rl rm nl nm : Int} {p : Bool} (h : KAt w g ka kb kc il im rl rm nl nm p) (hb : Below w.heap.size w w') : KAt w' g ka kb kc il im rl rm nl nm p := (hb.block g h.lt).trans h

set_option maxRecDepth 100000 in
set_option maxHeartbeats 6400000 in
theorem x12hl_any (ka kb kc il im rl rm nl nm : Int) (p : Bool) (k a b c : Int) (pi : Option Addr) (li ci : Nat) (pr : Option Addr) (lr cr : Nat) (pn : Option Addr) (ln cn : Nat) (w : World) :
    Calls Try.prog 34 #[.agg #[.int .i64 ka, .int .i64 kb, .int .i64 kc, .int .i64 il, .int .i64 im, .int .i64 rl, .int .i64 rm, .int .i64 nl, .int .i64 nm, .bool p], .agg #[.int .i64 k, .int .i64 a, .int .i64 b, .int .i64 c, .slice pi li ci, .slice pr lr cr, .slice pn ln cn]] w fun e w' => e = .returned (.bool (!(p && (li != ln)) && (inB il im li && inB rl rm lr && inB nl nm ln))) ∧ Below w.heap.size w w' := by
  obtain ⟨r1, h1⟩ : ∃ r1, r1 = inB il im li := ⟨_, rfl⟩
  obtain ⟨r2, h2⟩ : ∃ r1, r1 = inB rl rm lr := ⟨_, rfl⟩
  obtain ⟨r3, h3⟩ : ∃ r1, r1 = inB nl nm ln := ⟨_, rfl⟩
  have H1 : Hid (∀ w : World, Calls Try.prog 57 #[.agg #[.int .i64 il, .int .i64 im], .int .i64 (li : Int)] w fun e w' => e = .returned (.bool r1) ∧ Below w.heap.size w w') := by rw [h1]; exact x12holds_any il im li
  have H2 : Hid (∀ w : World, Calls Try.prog 57 #[.agg #[.int .i64 rl, .int .i64 rm], .int .i64 (lr : Int)] w fun e w' => e = .returned (.bool r2) ∧ Below w.heap.size w w') := by rw [h2]; exact x12holds_any rl rm lr
  have H3 : Hid (∀ w : World, Calls Try.prog 57 #[.agg #[.int .i64 nl, .int .i64 nm], .int .i64 (ln : Int)] w fun e w' => e = .returned (.bool r3) ∧ Below w.heap.size w w') := by rw [h3]; exact x12holds_any nl nm ln
  rw [← h1, ← h2, ← h3]
  have B1 := balloc w (.cells #[.int .i64 ka, .int .i64 kb, .int .i64 kc, .int .i64 il, .int .i64 im, .int .i64 rl, .int .i64 rm, .int .i64 nl, .int .i64 nm, .bool p] 77)
  have K1 : KAt (w.alloc (.cells #[.int .i64 ka, .int .i64 kb, .int .i64 kc, .int .i64 il, .int .i64 im, .int .i64 rl, .int .i64 rm, .int .i64 nl, .int .i64 nm, .bool p] 77)) w.heap.size ka kb kc il im rl rm nl nm p := heap_alloc_new _ _
  have B2 := balloc (w.alloc (.cells #[.int .i64 ka, .int .i64 kb, .int .i64 kc, .int .i64 il, .int .i64 im, .int .i64 rl, .int .i64 rm, .int .i64 nl, .int .i64 nm, .bool p] 77)) (.cells #[.int .i64 k, .int .i64 a, .int .i64 b, .int .i64 c, .slice pi li ci, .slice pr lr cr, .slice pn ln cn] 31)
  have M1 := MsgAt.new (w.alloc (.cells #[.int .i64 ka, .int .i64 kb, .int .i64 kc, .int .i64 il, .int .i64 im, .int .i64 rl, .int .i64 rm, .int .i64 nl, .int .i64 nm, .bool p] 77)) k a b c pi pr pn li ci lr cr ln cn
  rw [World.size_alloc] at M1
  replace K1 := K1.below B2
  have HB := bthen B1 B2
  obtain ⟨V, hV⟩ : ∃ V, V = (w.alloc (.cells #[.int .i64 ka, .int .i64 kb, .int .i64 kc, .int .i64 il, .int .i64 im, .int .i64 rl, .int .i64 rm, .int .i64 nl, .int .i64 nm, .bool p] 77)).alloc (.cells #[.int .i64 k, .int .i64 a, .int .i64 b, .int .i64 c, .slice pi li ci, .slice pr lr cr, .slice pn ln cn] 31) := ⟨_, rfl⟩
  rw [← hV] at K1 M1 HB
  have HV : Hid (V = (w.alloc (.cells #[.int .i64 ka, .int .i64 kb, .int .i64 kc, .int .i64 il, .int .i64 im, .int .i64 rl, .int .i64 rm, .int .i64 nl, .int .i64 nm, .bool p] 77)).alloc (.cells #[.int .i64 k, .int .i64 a, .int .i64 b, .int .i64 c, .slice pi li ci, .slice pr lr cr, .slice pn ln cn] 31)) := hV
  clear B1 B2 h1 h2 h3 hV
  obtain ⟨⟨k0, k1, k2, k3, k4, k5, k6, k7, k8, k9⟩, -⟩ := cells10 K1
  obtain ⟨⟨c0, c1, c2, c3, c4, c5, c6⟩, -⟩ := M1.cells
  have hne1 : ((li : Int) != (ln : Int)) = (li != ln) := Bool.eq_iff_iff.2 (by simp only [bne_iff_ne, ne_eq]; omega)
  have hne2 : ((li : Int) == (ln : Int)) = !(li != ln) := by rw [← hne1]; simp [bne]
  obtain ⟨q, hq⟩ : ∃ q, q = (li != ln) := ⟨_, rfl⟩
  rw [← hq] at hne1 hne2
  rw [← hq]
  clear hq
  cases p with
  | false =>
    go_enter Try.func34, Try.ntmps34
    go_upto_region 1 with fail
    rw [← HV.out]
    obtain ⟨G, hG⟩ : ∃ G, G = w.heap.size := ⟨_, rfl⟩
    rw [← hG] at K1 M1 k0 k1 k2 k3 k4 k5 k6 k7 k8 k9 c0 c1 c2 c3 c4 c5 c6
    rw [← hG]
    have HG : Hid (G = w.heap.size) := hG
    clear hG HV
    go_wp2_with fail
    refine Calls.mono (H1.out _) ?_
    rintro e w1 ⟨rfl, hb1⟩
    have hB1 := bthen HB hb1
    replace K1 := K1.below hb1
    replace M1 := M1.kept (hb1.block _ M1.lt)
    clear k0 k1 k2 k3 k4 k5 k6 k7 k8 k9 c0 c1 c2 c3 c4 c5 c6
    obtain ⟨⟨k0, k1, k2, k3, k4, k5, k6, k7, k8, k9⟩, -⟩ := cells10 K1
    obtain ⟨⟨c0, c1, c2, c3, c4, c5, c6⟩, -⟩ := M1.cells
    clear HB hb1
    clear H1
    cases r1 with
    | false =>
      clear H2 H3
      go_wp2
      go_ret
      exact ⟨by simp, hB1⟩
    | true =>
      go_wp2_with fail
      refine Calls.mono (H2.out _) ?_
      rintro e w2 ⟨rfl, hb1⟩
      have hB2 := bthen hB1 hb1
      replace K1 := K1.below hb1
      replace M1 := M1.kept (hb1.block _ M1.lt)
      clear k0 k1 k2 k3 k4 k5 k6 k7 k8 k9 c0 c1 c2 c3 c4 c5 c6
      obtain ⟨⟨k0, k1, k2, k3, k4, k5, k6, k7, k8, k9⟩, -⟩ := cells10 K1
      obtain ⟨⟨c0, c1, c2, c3, c4, c5, c6⟩, -⟩ := M1.cells
      clear hB1 hb1
      clear H2
      cases r2 with
      | false =>
        clear H3
        go_wp2
        go_ret
        exact ⟨by simp, hB2⟩
      | true =>
        go_wp2_with fail
        refine Calls.mono (H3.out _) ?_
        rintro e w3 ⟨rfl, hb3⟩
        have hB3 := bthen hB2 hb3
        clear H3 k0 k1 k2 k3 k4 k5 k6 k7 k8 k9 c0 c1 c2 c3 c4 c5 c6 K1 M1 hB2 hb3
        go_wp2
        go_ret
        exact ⟨by simp, hB3⟩
  | true =>
    cases q with
    | false =>
      go_enter Try.func34, Try.ntmps34
      go_upto_region 1 with fail
      rw [← HV.out]
      obtain ⟨G, hG⟩ : ∃ G, G = w.heap.size := ⟨_, rfl⟩
      rw [← hG] at K1 M1 k0 k1 k2 k3 k4 k5 k6 k7 k8 k9 c0 c1 c2 c3 c4 c5 c6
      rw [← hG]
      have HG : Hid (G = w.heap.size) := hG
      clear hG HV
      go_wp2_with fail
      refine Calls.mono (H1.out _) ?_
      rintro e w1 ⟨rfl, hb1⟩
      have hB1 := bthen HB hb1
      replace K1 := K1.below hb1
      replace M1 := M1.kept (hb1.block _ M1.lt)
      clear k0 k1 k2 k3 k4 k5 k6 k7 k8 k9 c0 c1 c2 c3 c4 c5 c6
      obtain ⟨⟨k0, k1, k2, k3, k4, k5, k6, k7, k8, k9⟩, -⟩ := cells10 K1
      obtain ⟨⟨c0, c1, c2, c3, c4, c5, c6⟩, -⟩ := M1.cells
      clear HB hb1
      clear H1
      cases r1 with
      | false =>
        clear H2 H3
        go_wp2
        go_ret
        exact ⟨by simp, hB1⟩
      | true =>
        go_wp2_with fail
        refine Calls.mono (H2.out _) ?_
        rintro e w2 ⟨rfl, hb1⟩
        have hB2 := bthen hB1 hb1
        replace K1 := K1.below hb1
        replace M1 := M1.kept (hb1.block _ M1.lt)
        clear k0 k1 k2 k3 k4 k5 k6 k7 k8 k9 c0 c1 c2 c3 c4 c5 c6
        obtain ⟨⟨k0, k1, k2, k3, k4, k5, k6, k7, k8, k9⟩, -⟩ := cells10 K1
        obtain ⟨⟨c0, c1, c2, c3, c4, c5, c6⟩, -⟩ := M1.cells
        clear hB1 hb1
        clear H2
        cases r2 with
        | false =>
          clear H3
          go_wp2
          go_ret
          exact ⟨by simp, hB2⟩
        | true =>
          go_wp2_with fail
          refine Calls.mono (H3.out _) ?_
          rintro e w3 ⟨rfl, hb3⟩
          have hB3 := bthen hB2 hb3
          clear H3 k0 k1 k2 k3 k4 k5 k6 k7 k8 k9 c0 c1 c2 c3 c4 c5 c6 K1 M1 hB2 hb3
          go_wp2
          go_ret
          exact ⟨by simp, hB3⟩
    | true =>
      go_enter Try.func34, Try.ntmps34
      go_upto_region 1 with fail
      rw [← HV.out]
      obtain ⟨G, hG⟩ : ∃ G, G = w.heap.size := ⟨_, rfl⟩
      rw [← hG] at K1 M1 k0 k1 k2 k3 k4 k5 k6 k7 k8 k9 c0 c1 c2 c3 c4 c5 c6
      rw [← hG]
      have HG : Hid (G = w.heap.size) := hG
      clear hG HV
      clear H1 H2 H3
      go_wp2
      go_ret
      exact ⟨rfl, HB⟩
end Go.Proofs.Ytnbdbahfekneoab

namespace Go.Proofs.Ytnbdbahfekneoab
open Go.RowKit

theorem right_kind {K : Nat} {a b c : Int} {ids rows : List Int} {nats : List (List Int)} (h1 : 1 ≤ K) (h2 : K ≤ 11) : RightM (K : Int) a b c ids rows nats ↔ (upB a (kA K) && upB b (kB K) && upB c (kC K)) = true ∧ (!(kP K && (ids.length != nats.length)) && (inB (kIl K) (kIm K) ids.length && inB 0 (kRm K) rows.length && inB (kNl K) (kNm K) nats.length)) = true ∧ (∀ i, i < ids.length → 0 ≤ ids.getD i 0 ∧ ids.getD i 0 ≤ 1073741824) ∧ (∀ i, i < rows.length → 0 ≤ rows.getD i 0 ∧ rows.getD i 0 ≤ 1073741824) ∧ (∀ i, i < rows.length → 0 < i → rows.getD (i - 1) 0 < rows.getD i 0) ∧ ∀ i, i < nats.length → rightB (nats.getD i []) = true ∧ (nats.getD i []).length ≤ 4 := by
  have hK : K = 1 ∨ K = 2 ∨ K = 3 ∨ K = 4 ∨ K = 5 ∨ K = 6 ∨ K = 7 ∨ K = 8 ∨ K = 9 ∨ K = 10 ∨ K = 11 := by omega
  have hx : (upB a (kA K) && upB b (kB K) && upB c (kC K)) = true ∧ (!(kP K && (ids.length != nats.length)) && (inB (kIl K) (kIm K) ids.length && inB 0 (kRm K) rows.length && inB (kNl K) (kNm K) nats.length)) = true ↔
      ((0 ≤ a ∧ a ≤ kA K) ∧ (0 ≤ b ∧ b ≤ kB K) ∧ (0 ≤ c ∧ c ≤ kC K)) ∧ (K = 5 → ids.length = nats.length) ∧ (kIl K ≤ ids.length ∧ ids.length ≤ kIm K) ∧ (rows.length ≤ kRm K) ∧ (kNl K ≤ nats.length ∧ nats.length ≤ kNm K) := by
    unfold upB inB kP
    simp only [Bool.and_eq_true, decide_eq_true_eq, Bool.not_eq_true', Bool.and_eq_false_iff, decide_eq_false_iff_not, bne_eq_false_iff_eq]
    constructor
    · rintro ⟨⟨⟨x1, x2⟩, x3⟩, x4, ⟨x5, x6⟩, x7⟩
      exact ⟨⟨x1, x2, x3⟩, fun e => x4.resolve_left (fun q => q e), x5, x6.2, x7⟩
    · rintro ⟨⟨x1, x2, x3⟩, x4, x5, x6, x7⟩
      refine ⟨⟨⟨x1, x2⟩, x3⟩, ?_, ⟨x5, by omega, x6⟩, x7⟩
      by_cases e : K = 5
      · exact .inr (x4 e)
      · exact .inl e
  have step : (¬ ((K : Int) < 1 ∨ 11 < (K : Int) ∨ a < 0 ∨ 1073741824 < a ∨ b < 0 ∨ 1073741824 < b ∨ c < 0 ∨ 1073741824 < c) ∧ ¬ ((numsOf K < 2 ∧ b ≠ 0) ∨ (numsOf K < 3 ∧ c ≠ 0) ∨ ((K : Int) = 9 ∧ 1 < c)) ∧
      ¬ ((¬ ((K : Int) = 5 ∨ (K : Int) = 6) ∧ 0 < ids.length) ∨ (¬ ((K : Int) = 4 ∨ (K : Int) = 7) ∧ 0 < rows.length) ∨ (¬ ((K : Int) = 1 ∨ (K : Int) = 3 ∨ (K : Int) = 5) ∧ 0 < nats.length)) ∧
      ¬ (16384 < ids.length ∨ 16384 < rows.length ∨ 16384 < nats.length) ∧ ¬ (((K : Int) = 1 ∧ nats.length ≠ 1) ∨ ((K : Int) = 5 ∧ nats.length ≠ ids.length) ∨ ((K : Int) = 6 ∧ ids.length = 0))) ↔
      ((0 ≤ a ∧ a ≤ kA K) ∧ (0 ≤ b ∧ b ≤ kB K) ∧ (0 ≤ c ∧ c ≤ kC K)) ∧ (K = 5 → ids.length = nats.length) ∧ (kIl K ≤ ids.length ∧ ids.length ≤ kIm K) ∧ (rows.length ≤ kRm K) ∧ (kNl K ≤ nats.length ∧ nats.length ≤ kNm K) := by
    generalize ids.length = L1
    generalize rows.length = L2
    generalize nats.length = L3
    clear hx
    rcases hK with rfl | rfl | rfl | rfl | rfl | rfl | rfl | rfl | rfl | rfl | rfl <;> simp [numsOf, kA, kB, kC, kIl, kIm, kRm, kNl, kNm] <;> omega
  constructor
  · intro r
    obtain ⟨y1, y2⟩ := hx.2 (step.1 ⟨r.p1, r.p2, r.p3, r.p4, r.p5⟩)
    exact ⟨y1, y2, r.p6, fun i hi => ⟨(r.p7 i hi).1, (r.p7 i hi).2.1⟩, fun i hi h0 => (r.p7 i hi).2.2 h0, r.p8⟩
  · rintro ⟨y1, y2, y3, y4, y5, y6⟩
    obtain ⟨p1, p2, p3, p4, p5⟩ := step.2 (hx.1 ⟨y1, y2⟩)
    exact ⟨p1, p2, p3, p4, p5, y3, fun i hi => ⟨(y4 i hi).1, (y4 i hi).2, fun h0 => y5 i hi h0⟩, y6⟩
/-- A message's lists lie in memory. -/
structure Msg3 (w : World) (pi : Option Addr) (li ci : Nat) (pr : Option Addr) (lr cr : Nat) (pn : Option Addr) (ln cn : Nat) (ids rows : List Int) (nats : List (List Int)) : Prop where
  ids : Lsts w pi li ci ids
  rows : Lsts w pr lr cr rows
  nats : NRow w pn ln cn nats
theorem Msg3.below {w w' : World} {pi pr pn : Option Addr} {li ci lr cr ln cn : Nat} {ids rows : List Int} {nats : List (List Int)} (h : Msg3 w pi li ci pr lr cr pn ln cn ids rows nats) (hb : Below w.heap.size w w') : Msg3 w' pi li ci pr lr cr pn ln cn ids rows nats := ⟨h.ids.below hb, h.rows.below hb, h.nats.below hb⟩
theorem MsgIn.three {w : World} {k a b c : Int} {pi pr pn : Option Addr} {li ci lr cr ln cn : Nat} {ids rows : List Int} {nats : List (List Int)} (h : MsgIn w k a b c pi li ci pr lr cr pn ln cn ids rows nats) : Msg3 w pi li ci pr lr cr pn ln cn ids rows nats := ⟨h.ids, h.rows, h.nats⟩
set_option maxRecDepth 100000 in
set_option maxHeartbeats 6400000 in
theorem x12right_any (k a b c : Int) (pi : Option Addr) (li ci : Nat) (pr : Option Addr) (lr cr : Nat) (pn : Option Addr) (ln cn : Nat) (ids rows : List Int) (nats : List (List Int)) (w : World) (H : Msg3 w pi li ci pr lr cr pn ln cn ids rows nats) :
    Calls Try.prog 13 #[.agg #[.int .i64 k, .int .i64 a, .int .i64 b, .int .i64 c, .slice pi li ci, .slice pr lr cr, .slice pn ln cn]] w fun e w' => RgtT k a b c ids rows nats w e w' := by
  have hV := balloc w (.cells #[.int .i64 k, .int .i64 a, .int .i64 b, .int .i64 c, .slice pi li ci, .slice pr lr cr, .slice pn ln cn] 31)
  have hC := MsgAt.new w k a b c pi pr pn li ci lr cr ln cn
  obtain ⟨V, hVe⟩ : ∃ V, V = w.alloc (.cells #[.int .i64 k, .int .i64 a, .int .i64 b, .int .i64 c, .slice pi li ci, .slice pr lr cr, .slice pn ln cn] 31) := ⟨_, rfl⟩
  rw [← hVe] at hV hC
  have HVe : Hid (V = w.alloc (.cells #[.int .i64 k, .int .i64 a, .int .i64 b, .int .i64 c, .slice pi li ci, .slice pr lr cr, .slice pn ln cn] 31)) := hVe
  replace H := H.below hV
  obtain ⟨G, hG⟩ : ∃ G, G = w.heap.size := ⟨_, rfl⟩
  rw [← hG] at hC
  have HG : Hid (G = w.heap.size) := hG
  clear hVe hG
  obtain ⟨⟨c0, c1, c2, c3, c4, c5, c6⟩, -⟩ := hC.cells
  by_cases hk : k < 1 ∨ 11 < k
  · have HF : Hid (¬ RightM k a b c ids rows nats) := fun r => r.p1 (by omega)
    have HO := (show Hid _ from x12no_any k a b c pi li ci pr lr cr pn ln cn V hk)
    clear H hk
    go_enter Try.func13, Try.ntmps13
    go_upto_region 1 with fail
    rw [← HVe.out, ← HG.out]
    go_wp2_with fail
    refine Calls.mono HO.out ?_
    rintro e w1 ⟨rfl, hb1⟩
    have hB1 := bthen hV hb1
    have b2 := balloc w1 (.cells #[.int .i64 0, .int .i64 0, .int .i64 0, .int .i64 0, .int .i64 0, .int .i64 0, .int .i64 0, .int .i64 0, .int .i64 0, .bool false] 77)
    have HB := (show Hid _ from bthen hB1 b2)
    clear c0 c1 c2 c3 c4 c5 c6 hC hV hb1 hB1 b2 HO
    go_wp2_with fail
    go_ret
    exact ⟨false, rfl, ⟨fun e => (by cases e), fun e => absurd e HF.out⟩, HB.out⟩
  · obtain ⟨K, rfl⟩ : ∃ K : Nat, k = (K : Int) := ⟨k.toNat, by omega⟩
    have hk1 : 1 ≤ K := by omega
    have hk2 : K ≤ 11 := by omega
    have hrk := right_kind (a := a) (b := b) (c := c) (ids := ids) (rows := rows) (nats := nats) hk1 hk2
    obtain ⟨r1, hr1⟩ : ∃ r1, r1 = (upB a (kA K) && upB b (kB K) && upB c (kC K)) := ⟨_, rfl⟩
    obtain ⟨r2, hr2⟩ : ∃ r2, r2 = (!(kP K && (li != ln)) && (inB (kIl K) (kIm K) li && inB 0 (kRm K) lr && inB (kNl K) (kNm K) ln)) := ⟨_, rfl⟩
    rw [H.ids.hlen, H.rows.hlen, H.nats.hlen, ← hr1, ← hr2] at hrk
    have HRK := (show Hid _ from hrk)
    have HO := (show Hid _ from x12of_any K a b c pi li ci pr lr cr pn ln cn V hk1 hk2)
    have H1 : Hid (∀ w : World, Calls Try.prog 33 #[.agg #[.int .i64 (kA K), .int .i64 (kB K), .int .i64 (kC K), .int .i64 (kIl K), .int .i64 (kIm K), .int .i64 0, .int .i64 (kRm K), .int .i64 (kNl K), .int .i64 (kNm K), .bool (kP K)], .agg #[.int .i64 (K : Int), .int .i64 a, .int .i64 b, .int .i64 c, .slice pi li ci, .slice pr lr cr, .slice pn ln cn]] w fun e w' => e = .returned (.bool r1) ∧ Below w.heap.size w w') := by
      rw [hr1]
      exact x12hn_any (kA K) (kB K) (kC K) (kIl K) (kIm K) 0 (kRm K) (kNl K) (kNm K) (kP K) (K : Int) a b c pi li ci pr lr cr pn ln cn
    have H2 : Hid (∀ w : World, Calls Try.prog 34 #[.agg #[.int .i64 (kA K), .int .i64 (kB K), .int .i64 (kC K), .int .i64 (kIl K), .int .i64 (kIm K), .int .i64 0, .int .i64 (kRm K), .int .i64 (kNl K), .int .i64 (kNm K), .bool (kP K)], .agg #[.int .i64 (K : Int), .int .i64 a, .int .i64 b, .int .i64 c, .slice pi li ci, .slice pr lr cr, .slice pn ln cn]] w fun e w' => e = .returned (.bool r2) ∧ Below w.heap.size w w') := by
      rw [hr2]
      exact x12hl_any (kA K) (kB K) (kC K) (kIl K) (kIm K) 0 (kRm K) (kNl K) (kNm K) (kP K) (K : Int) a b c pi li ci pr lr cr pn ln cn
    have HLn : Hid (ids.length = li ∧ rows.length = lr ∧ nats.length = ln) := ⟨H.ids.hlen, H.rows.hlen, H.nats.hlen⟩
    unfold kindR at HO
    clear hk hk1 hk2 hrk hr1 hr2
    go_enter Try.func13, Try.ntmps13
    go_upto_region 1 with fail
    rw [← HVe.out, ← HG.out]
    go_upto_region 2 with fail
    refine Calls.mono HO.out ?_
    rintro e w1 ⟨rfl, hb1⟩
    have hB1 := bthen hV hb1
    replace H := H.below hb1
    replace hC := hC.kept (hb1.block _ hC.lt)
    have hb2 := balloc w1 (.cells #[.int .i64 (kA K), .int .i64 (kB K), .int .i64 (kC K), .int .i64 (kIl K), .int .i64 (kIm K), .int .i64 0, .int .i64 (kRm K), .int .i64 (kNl K), .int .i64 (kNm K), .bool (kP K)] 77)
    have hK : KAt (w1.alloc (.cells #[.int .i64 (kA K), .int .i64 (kB K), .int .i64 (kC K), .int .i64 (kIl K), .int .i64 (kIm K), .int .i64 0, .int .i64 (kRm K), .int .i64 (kNl K), .int .i64 (kNm K), .bool (kP K)] 77)) w1.heap.size (kA K) (kB K) (kC K) (kIl K) (kIm K) 0 (kRm K) (kNl K) (kNm K) (kP K) := heap_alloc_new w1 _
    have hB2 := bthen hB1 hb2
    replace H := H.below hb2
    replace hC := hC.kept (hb2.block _ hC.lt)
    clear c0 c1 c2 c3 c4 c5 c6 hV hb1 hB1 hb2 HO
    obtain ⟨⟨c0, c1, c2, c3, c4, c5, c6⟩, -⟩ := hC.cells
    obtain ⟨⟨k0, k1, k2, k3, k4, k5, k6, k7, k8, k9⟩, -⟩ := cells10 hK
    go_wp2_with fail
    refine Calls.mono (H1.out _) ?_
    rintro e w3 ⟨rfl, hb3⟩
    obtain ⟨g, hg⟩ : ∃ g, g = w1.heap.size := ⟨_, rfl⟩
    rw [← hg] at hK
    rw [← hg]
    clear hg
    have hB3 := bthen hB2 hb3
    replace H := H.below hb3
    replace hC := hC.kept (hb3.block _ hC.lt)
    replace hK := hK.below hb3
    clear hb3 hB2 c0 c1 c2 c3 c4 c5 c6 k0 k1 k2 k3 k4 k5 k6 k7 k8 k9
    obtain ⟨⟨c0, c1, c2, c3, c4, c5, c6⟩, -⟩ := hC.cells
    obtain ⟨⟨k0, k1, k2, k3, k4, k5, k6, k7, k8, k9⟩, -⟩ := cells10 hK
    clear H1
    cases r1 with
    | false =>
      clear H2
      have HF : Hid (¬ RightM (K : Int) a b c ids rows nats) := fun r => by
        have q := HRK.out.1 r
        cases q.1
      clear HRK H hC hK c0 c1 c2 c3 c4 c5 c6 k0 k1 k2 k3 k4 k5 k6 k7 k8 k9
      go_wp2
      go_ret
      exact ⟨false, rfl, ⟨fun e => (by cases e), fun e => absurd e HF.out⟩, hB3⟩
    | true =>
      go_wp2_with fail
      refine Calls.mono (H2.out _) ?_
      rintro e w4 ⟨rfl, hb4⟩
      have hB4 := bthen hB3 hb4
      replace H := H.below hb4
      replace hC := hC.kept (hb4.block _ hC.lt)
      replace hK := hK.below hb4
      clear hb4 hB3 c0 c1 c2 c3 c4 c5 c6 k0 k1 k2 k3 k4 k5 k6 k7 k8 k9
      obtain ⟨⟨c0, c1, c2, c3, c4, c5, c6⟩, -⟩ := hC.cells
      obtain ⟨⟨k0, k1, k2, k3, k4, k5, k6, k7, k8, k9⟩, -⟩ := cells10 hK
      clear H2
      cases r2 with
      | false =>
        have HF : Hid (¬ RightM (K : Int) a b c ids rows nats) := fun r => by
          have q := HRK.out.1 r
          cases q.2.1
        clear HRK H hC hK c0 c1 c2 c3 c4 c5 c6 k0 k1 k2 k3 k4 k5 k6 k7 k8 k9
        go_wp2
        go_ret
        exact ⟨false, rfl, ⟨fun e => (by cases e), fun e => absurd e HF.out⟩, hB4⟩
      | true =>
        go_wp2_with fail
        refine (x12nums_any pi li ci ids _ H.ids).mono ?_
        rintro e w5 ⟨r3, rfl, hr3, rfl⟩
        rw [HLn.out.1] at hr3
        have HR3 := (show Hid _ from hr3)
        clear hr3
        cases r3 with
        | false =>
          have HF : Hid (¬ RightM (K : Int) a b c ids rows nats) := fun r => by
            have q := HRK.out.1 r
            cases HR3.out.2 q.2.2.1
          clear HRK H hC hK c0 c1 c2 c3 c4 c5 c6 k0 k1 k2 k3 k4 k5 k6 k7 k8 k9
          go_wp2
          go_ret
          exact ⟨false, rfl, ⟨fun e => (by cases e), fun e => absurd e HF.out⟩, hB4⟩
        | true =>
          go_wp2_with fail
          refine (x12nums_any pr lr cr rows _ H.rows).mono ?_
          rintro e w5 ⟨r4, rfl, hr4, rfl⟩
          rw [HLn.out.2.1] at hr4
          have HR4 := (show Hid _ from hr4)
          clear hr4
          cases r4 with
          | false =>
            have HF : Hid (¬ RightM (K : Int) a b c ids rows nats) := fun r => by
              have q := HRK.out.1 r
              cases HR4.out.2 q.2.2.2.1
            clear HRK H hC hK c0 c1 c2 c3 c4 c5 c6 k0 k1 k2 k3 k4 k5 k6 k7 k8 k9
            go_wp2
            go_ret
            exact ⟨false, rfl, ⟨fun e => (by cases e), fun e => absurd e HF.out⟩, hB4⟩
          | true =>
            go_wp2_with fail
            refine (x12rise_any pr lr cr rows _ H.rows).mono ?_
            rintro e w5 ⟨r5, rfl, hr5, hb5⟩
            rw [HLn.out.2.1] at hr5
            have HR5 := (show Hid _ from hr5)
            clear hr5
            have hB5 := bthen hB4 hb5
            replace H := H.below hb5
            replace hC := hC.kept (hb5.block _ hC.lt)
            replace hK := hK.below hb5
            clear hb5 hB4 c0 c1 c2 c3 c4 c5 c6 k0 k1 k2 k3 k4 k5 k6 k7 k8 k9
            obtain ⟨⟨c0, c1, c2, c3, c4, c5, c6⟩, -⟩ := hC.cells
            obtain ⟨⟨k0, k1, k2, k3, k4, k5, k6, k7, k8, k9⟩, -⟩ := cells10 hK
            cases r5 with
            | false =>
              have HF : Hid (¬ RightM (K : Int) a b c ids rows nats) := fun r => by
                have q := HRK.out.1 r
                cases HR5.out.2 q.2.2.2.2.1
              clear HRK H hC hK c0 c1 c2 c3 c4 c5 c6 k0 k1 k2 k3 k4 k5 k6 k7 k8 k9
              go_wp2
              go_ret
              exact ⟨false, rfl, ⟨fun e => (by cases e), fun e => absurd e HF.out⟩, hB5⟩
            | true =>
              go_wp2_with fail
              refine (x12nats_any pn ln cn nats _ H.nats).mono ?_
              rintro e w6 ⟨r6, rfl, hr6, rfl⟩
              rw [HLn.out.2.2] at hr6
              have HR6 := (show Hid _ from hr6)
              clear hr6
              have HF : Hid (r6 = true ↔ RightM (K : Int) a b c ids rows nats) := by
                show _ ↔ _
                rw [HRK.out, HR6.out]
                have q3 := HR3.out.1 (by first | rfl | trivial)
                have q4 := HR4.out.1 (by first | rfl | trivial)
                have q5 := HR5.out.1 (by first | rfl | trivial)
                exact ⟨fun q => ⟨by first | rfl | trivial, by first | rfl | trivial, q3, q4, q5, q⟩, fun q => q.2.2.2.2.2⟩
              clear HRK HR3 HR4 HR5 HR6 HLn H hC hK c0 c1 c2 c3 c4 c5 c6 k0 k1 k2 k3 k4 k5 k6 k7 k8 k9
              go_wp2
              go_ret
              exact ⟨r6, by simp, HF.out, hB5⟩
theorem rgt_ok12 : RgtOk12 := fun k a b c pi li ci pr lr cr pn ln cn ids rows nats w H => x12right_any k a b c pi li ci pr lr cr pn ln cn ids rows nats w H.three
end Go.Proofs.Ytnbdbahfekneoab

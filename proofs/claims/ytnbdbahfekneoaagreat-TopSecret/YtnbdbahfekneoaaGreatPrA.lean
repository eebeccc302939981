/-
  Contracts of the document's least, Is and Least.
  What is tried as a divisor: 2, 3, and those beside a multiple of 6; products by a word; the highest and the lowest bit set.
  Contracts of the program's own search for the least divisor, which ranges over a function that hands the divisors out; of Is and of Least.
  Contracts of the program's own Is and Least.
  The contract of the document's Witness.
-/
import Derived.Test.YtnbdbahfekneoaaGreatArA
import Derived.RangeFuncNested
import Derived.RangeFuncBound
import Derived.RangeFuncCalls
import Derived.RangeFuncLeaves
import Derived.RangeFuncFrom
import Derived.Shelf.Abstract
import Derived.Shelf.RegionOpen
import Derived.WalkKit
import Derived.OwnWalkIn
import Derived.TacticsInMore
import Derived.LoopNIn
import Derived.LoopIn
import Derived.Test.YtnbdbahfekneoaaGreatMontC
namespace Go.Proofs.YtnbdbahfekneoaaGreat
open Go.RowKit

/-- What is told of whether n is a prime, and the error. -/
def isB (n : Nat) : Bool := decide (n < 1099511627776) && prB n
def isE (n : Nat) : Int := if n < 1099511627776 then 0 else 1
/-- What is told of the least divisor of n. -/
def ResLeast (n : Nat) (d : Nat) (err : Int) : Prop := if 2 ≤ n ∧ n < 1099511627776 then err = 0 ∧ LeastOf n d else d = 0 ∧ err = 1

theorem ResLeast.unique {n d c : Nat} {e f : Int} (h : ResLeast n d e) (h' : ResLeast n c f) : d = c ∧ e = f := by
  unfold ResLeast at h h'
  split at h
  · rename_i hc
    rw [if_pos hc] at h'
    exact ⟨h.2.unique h'.2, h.1.trans h'.1.symm⟩
  · rename_i hc
    rw [if_neg hc] at h'
    exact ⟨h.1.trans h'.1.symm, h.2.trans h'.2.symm⟩

theorem sq_bd {k n : Nat} (h : k * k ≤ n) (hn : n < 1099511627776) : k < 1048576 := by
  rcases Nat.lt_or_ge k 1048576 with h' | h'
  · exact h'
  · have := Nat.mul_le_mul h' h'
    omega

theorem is_far {n : Nat} (h : ¬ n < 1099511627776) : isB n = false ∧ isE n = 1 := by simp [isB, isE, h]
theorem is_near {n : Nat} (h : n < 1099511627776) : isB n = prB n ∧ isE n = 0 := by simp [isB, isE, h]

end Go.Proofs.YtnbdbahfekneoaaGreat

namespace Go.Proofs.YtnbdbahfekneoaaGreat
open Go.RowKit

/-- The next one to be tried. -/
def behindN (d : Nat) : Nat := if d = 2 then 3 else if d % 6 = 1 then d + 4 else d + 2
/-- The k-th one that is tried. -/
def tryAt : Nat → Nat
  | 0 => 2
  | k + 1 => behindN (tryAt k)

theorem behindN_gt (d : Nat) : d + 1 ≤ behindN d ∧ behindN d ≤ d + 4 := by
  unfold behindN
  split
  · omega
  · split <;> omega
theorem tryAt_ge (k : Nat) : k + 2 ≤ tryAt k := by
  induction k with
  | zero => exact Nat.le_refl _
  | succ k ih => have := behindN_gt (tryAt k); show _ ≤ behindN _; omega
theorem tryAt_six (k : Nat) : tryAt (k + 2) % 6 = 1 ∨ tryAt (k + 2) % 6 = 5 := by
  induction k with
  | zero => right; decide
  | succ k ih =>
    have h2 := tryAt_ge (k + 2)
    show behindN (tryAt (k + 2)) % 6 = 1 ∨ behindN (tryAt (k + 2)) % 6 = 5
    unfold behindN
    rw [if_neg (by omega)]
    split <;> omega
/-- Whatever is below the k-th has a divisor among those ahead of it. -/
theorem tryAt_all (k : Nat) : ∀ j, 2 ≤ j → j < tryAt k → ∃ i, i < k ∧ tryAt i ∣ j := by
  induction k with
  | zero => intro j h1 h2; have : tryAt 0 = 2 := rfl; omega
  | succ k ih =>
    intro j h1 h2
    by_cases hlt : j < tryAt k
    · obtain ⟨i, hi, hd⟩ := ih j h1 hlt
      exact ⟨i, by omega, hd⟩
    by_cases he : j = tryAt k
    · exact ⟨k, by omega, by rw [he]; exact Nat.dvd_refl _⟩
    match k, hlt, he, h2 with
    | 0, hlt, he, h2 => have e0 : tryAt 0 = 2 := rfl; have e1 : tryAt (0 + 1) = 3 := rfl; omega
    | 1, hlt, he, h2 =>
      have e1 : tryAt 1 = 3 := rfl
      have e2 : tryAt (1 + 1) = 5 := rfl
      exact ⟨0, by omega, by show 2 ∣ j; omega⟩
    | k + 2, hlt, he, h2 =>
      have h6 := tryAt_six k
      have hge := tryAt_ge (k + 2)
      have hb : tryAt (k + 2 + 1) = behindN (tryAt (k + 2)) := rfl
      rw [hb] at h2
      unfold behindN at h2
      rw [if_neg (by omega)] at h2
      by_cases hev : j % 2 = 0
      · exact ⟨0, by omega, by show 2 ∣ j; omega⟩
      · refine ⟨1, by omega, ?_⟩
        show 3 ∣ j
        split at h2 <;> omega

/-- Nothing that was tried divides n. -/
def NoneTo (n k : Nat) : Prop := ∀ i, i < k → ¬ tryAt i ∣ n
theorem NoneTo.below {n k : Nat} (h : NoneTo n k) : ∀ j, 2 ≤ j → j < tryAt k → ¬ j ∣ n := fun j h1 h2 h3 => by
  obtain ⟨i, hi, hd⟩ := tryAt_all k j h1 h2
  exact h i hi (Nat.dvd_trans hd h3)
theorem NoneTo.succ {n k : Nat} (h : NoneTo n k) (h' : ¬ tryAt k ∣ n) : NoneTo n (k + 1) := fun i hi => by
  by_cases e : i = k
  · rw [e]; exact h'
  · exact h i (by omega)
theorem NoneTo.found {n k : Nat} (h : NoneTo n k) (hd : tryAt k ∣ n) (hs : tryAt k * tryAt k ≤ n) : LeastOf n (tryAt k) := .inl ⟨by have := tryAt_ge k; omega, hs, hd, h.below⟩
theorem NoneTo.over {n k : Nat} (h : NoneTo n k) (hs : n < tryAt k * tryAt k) : LeastOf n n := .inr ⟨rfl, fun j h1 h2 => h.below j h1 (by
  rcases Nat.lt_or_ge j (tryAt k) with e | e
  · exact e
  · have := Nat.mul_le_mul e e
    omega)⟩
theorem tryAt_bd {n k : Nat} (hs : tryAt k * tryAt k ≤ n) (hn : n < 1099511627776) : tryAt k < 1048576 ∧ k < 1048576 := by
  have hk := tryAt_ge k
  have : tryAt k < 1048576 := by
    rcases Nat.lt_or_ge (tryAt k) 1048576 with h' | h'
    · exact h'
    · have := Nat.mul_le_mul h' h'
      omega
  exact ⟨this, by omega⟩

/-- What may be tried. -/
abbrev Tried := { d : Nat // 2 ≤ d ∧ d < 1099511627776 }
/-- The first k of those that are tried. -/
def Firsts (k : Nat) (l : List Tried) : Prop := l.map Subtype.val = (List.range k).map tryAt
theorem Firsts.nil : Firsts 0 [] := rfl
theorem Firsts.snoc {k : Nat} {l : List Tried} (h : Firsts k l) (x : Tried) (hx : x.1 = tryAt k) : Firsts (k + 1) (l ++ [x]) := by
  unfold Firsts at *
  rw [List.map_append, List.range_succ, List.map_append, h]
  simp [hx]
theorem Firsts.len {k : Nat} {l : List Tried} (h : Firsts k l) : l.length = k := by
  have := congrArg List.length h
  simpa using this
theorem Firsts.none {n k : Nat} {l : List Tried} (h : Firsts k l) (hn : ∀ x ∈ l, ¬ x.1 ∣ n) : NoneTo n k := fun i hi hd => by
  have hm : tryAt i ∈ l.map Subtype.val := by rw [h]; exact List.mem_map.2 ⟨i, List.mem_range.2 hi, rfl⟩
  obtain ⟨x, hx, he⟩ := List.mem_map.1 hm
  exact hn x hx (by rw [he]; exact hd)
theorem Firsts.last {k : Nat} {l : List Tried} {x : Tried} (h : Firsts (k + 1) (l ++ [x])) : Firsts k l ∧ x.1 = tryAt k := by
  unfold Firsts at *
  rw [List.map_append, List.range_succ, List.map_append] at h
  obtain ⟨h1, h2⟩ := List.append_inj' h rfl
  exact ⟨h1, by simpa using h2⟩

theorem candidate_or {T x : Nat} {m : Nat} (hT : T = 2 ^ m) : (x &&& (T - 1) ||| T) ||| 1 = candidate T x := by
  subst hT
  rw [Nat.and_two_pow_sub_one_eq_mod]
  have hlt : x % 2 ^ m < 2 ^ m := Nat.mod_lt _ (Nat.pow_pos (by decide))
  have e1 : x % 2 ^ m ||| 2 ^ m = 2 ^ m + x % 2 ^ m := by
    rw [Nat.or_comm]
    have := (Nat.two_pow_add_eq_or_of_lt hlt 1).symm
    simpa using this
  rw [e1, Nat.add_comm]
  unfold candidate
  obtain ⟨y, hy⟩ : ∃ y, y = x % 2 ^ m + 2 ^ m := ⟨_, rfl⟩
  rw [← hy]
  have e2 : y ||| 1 = y / 2 * 2 + 1 := by
    have h0 := Nat.div_add_mod y 2
    have h1 : (1 : Nat) < 2 ^ 1 := by decide
    apply Nat.eq_of_testBit_eq
    intro i
    rw [Nat.testBit_or]
    cases i with
    | zero => simp
    | succ i =>
      have e3 : (y / 2 * 2 + 1) / 2 = y / 2 := by omega
      rw [Nat.testBit_succ, Nat.testBit_succ, Nat.testBit_succ, e3]
      simp
  rw [e2]
  split <;> omega
end Go.Proofs.YtnbdbahfekneoaaGreat

namespace Go.Proofs.YtnbdbahfekneoaaGreat
open Go.RowKit Go.Shelf

attribute [local go_sem] Oper.semAt_some

theorem box_new (W : World) (v : Value) (t : TypeId) : (W.alloc (.cells #[v] t)).cell? ⟨W.heap.size, 0, none⟩ = some v ∧ (W.alloc (.cells #[v] t)).frozen? ⟨W.heap.size, 0, none⟩ = false := ⟨by simp, by simp⟩
theorem box_on {W : World} {a : Addr} {v : Value} (o : Obj) (h : W.cell? a = some v ∧ W.frozen? a = false) : (W.alloc o).cell? a = some v ∧ (W.alloc o).frozen? a = false :=
  ⟨cell_kept h.1 (World.grownBy_alloc W o none) (fun r e => by cases e), (frozen_kept h.1 (World.grownBy_alloc W o none) (fun r e => by cases e)).trans h.2⟩

set_option maxHeartbeats 400000 in
theorem behind_any (d : Nat) (w : World) (hd : 2 ≤ d ∧ d < 1099511627776) :
    Calls Tryz.prog 150 #[.int .u64 (d : Int)] w fun e w' => e = .returned (.int .u64 (behindN d : Int)) ∧ w' = w := by
  by_cases c0 : d = 2
  · subst c0
    go_enter Tryz.func150, Tryz.ntmps150
    go_wp2
    go_ret
    exact ⟨rfl, rfl⟩
  have d0 : ((d : Int) == 2) = false := by simp; omega
  by_cases c1 : (d : Int) % 6 = 1
  · have e : behindN d = d + 4 := by unfold behindN; rw [if_neg c0, if_pos (by omega)]
    rw [e]
    clear c0 e
    go_enter Tryz.func150, Tryz.ntmps150
    go_wp2
    go_ret
    exact ⟨ret_int (by go_num), rfl⟩
  · have d1 : ((d : Int) % 6 == 1) = false := by simp [c1]
    have e : behindN d = d + 2 := by unfold behindN; rw [if_neg c0, if_neg (by omega)]
    rw [e]
    clear c0 c1 e
    go_enter Tryz.func150, Tryz.ntmps150
    go_wp2
    go_ret
    exact ⟨ret_int (by go_num), rfl⟩
set_option maxHeartbeats 400000 in
theorem divisors_any (n : Nat) (w : World) :
    Calls Tryz.prog 123 #[.int .u64 (n : Int)] w fun e w' => e = .returned (.func (.func 149) #[] #[.pointer (some ⟨w.heap.size, 0, none⟩)]) ∧ w' = w.alloc (.cells #[.int .u64 (n : Int)] 22) := by
  go_enter Tryz.func123, Tryz.ntmps123
  go_wp2
  go_ret
  exact ⟨rfl, rfl⟩

set_option maxRecDepth 100000 in
set_option maxHeartbeats 2000000 in
/-- The divisors that are handed out, for every loop body that keeps what lay. -/
theorem divisors_stops (m : Nat) (hm : 2 ≤ m) (Bn n₀ n : Nat) (w : World) (hn : n < 1099511627776) (hB : Bn < n₀) (hw : Bn < w.heap.size) (hc : w.cell? ⟨Bn, 0, none⟩ = some (.int .u64 (n : Int))) :
    SeqStopsK Fence.wide m Tryz.prog 149 #[.pointer (some ⟨Bn, 0, none⟩)] (fun x : Tried => #[.int .u64 (x.1 : Int)]) (Below n₀)
      (fun xs => ∃ k, Firsts k xs ∧ n < tryAt k * tryAt k) (fun pre => ∃ k, Firsts (k + 1) pre ∧ tryAt k * tryAt k ≤ n) 1048577 w := fun l J Jx W hW hJ hJx hY h0 => by
  have hcW : W.cell? ⟨Bn, 0, none⟩ = some (.int .u64 (n : Int)) := (hW.cell (p := ⟨Bn, 0, none⟩) hw).trans hc
  have h1 : 1 ≤ m := by omega
  have HT : Hid (∀ k, tryAt k * tryAt k ≤ n → tryAt k < 1048576 ∧ k < 1048576) := fun k h => tryAt_bd h hn
  clear hW hJ hJx hc hw
  refine callsIn_of_wp Tryz.func149 rfl trivial ?_ rfl
  simp only [Tryz.ntmps149, List.size_toArray, List.length_cons, List.length_nil, Nat.reduceAdd, Nat.reduceSub, Array.replicate_succ, Array.replicate_zero, List.push_toArray, List.append_toArray, List.nil_append, List.cons_append]
  gi_wp2
  gi_loopw [3] (fun dv wr => ∃ (d k : Nat) (pre : List Tried), dv = .int .u64 (d : Int) ∧ Hid (d = tryAt k) ∧ 2 ≤ d ∧ d ≤ 1048580 ∧ Firsts k pre ∧ wr.cell? ⟨Bn, 0, none⟩ = some (.int .u64 (n : Int)) ∧ J pre wr)
    (fun dv _ => 1099511627776 - (intOf dv).toNat)
  case atStart => exact ⟨2, 0, [], rfl, rfl, by omega, by omega, Firsts.nil, hcW, h0⟩
  case round =>
    obtain ⟨d, k, pre, rfl, HD, hd2, hd5, hF, hcr, hJs⟩ := hrel
    clear hcW h0
    have q1 : (d : Int) * (d : Int) ≤ 1048580 * 1048580 := Int.mul_le_mul (by omega) (by omega) (by omega) (by omega)
    have q0 : 0 ≤ (d : Int) * (d : Int) := Int.mul_nonneg (by omega) (by omega)
    have q2 : (d : Int) * (d : Int) < 18446744073709551616 := by omega
    have qe : ((d * d : Nat) : Int) = (d : Int) * (d : Int) := Int.natCast_mul d d
    by_cases hdd : (d : Int) * (d : Int) ≤ (n : Int)
    · have hdn : d * d ≤ n := by omega
      obtain ⟨hk1, hk2⟩ := HT.out k (by rw [← HD.out]; exact hdn)
      rw [← HD.out] at hk1
      have HS : Hid (Firsts (k + 1) (pre ++ [⟨d, by omega, by omega⟩]) ∧ tryAt k * tryAt k ≤ n) := ⟨hF.snoc _ HD.out, by rw [← HD.out]; exact hdn⟩
      have HN : Hid (behindN d = tryAt (k + 1)) := by show _ = behindN _; rw [HD.out]
      have hbn := behindN_gt d
      have hlen := hF.len
      obtain ⟨fn, tmps, assign, body, hy, hR⟩ := hY pre ⟨d, by omega, by omega⟩ wr hJs (by omega)
      dsimp only at hy
      clear qe hdn HD hF hJs
      gi_wp2
      refine hR.mono ?_
      rintro e W3 (⟨rfl, hJ3, hk3⟩ | ⟨rfl, hJx3⟩)
      · have hc3 : W3.cell? ⟨Bn, 0, none⟩ = some (.int .u64 (n : Int)) := (hk3.cell (p := ⟨Bn, 0, none⟩) hB).trans hcr
        clear hR hy hY hcr
        gi_wp2_with (refine ⟨trivial, ?_⟩; gi_at_call 150; refine (callsIn_wide.2 (behind_any d _ ⟨hd2, by omega⟩)).mono ?_; rintro e w' ⟨rfl, rfl⟩)
        go_roundw
        case rel => exact ⟨behindN d, k + 1, pre ++ [⟨d, by omega, by omega⟩], rfl, HN, by omega, by omega, HS.out.1, hc3, hJ3⟩
        case measure => simp [intOf]; omega
      · clear hR hy hY
        gi_wp2
        refine bodyPost_ret (results_none rfl _ _ _) rfl ?_
        exact ⟨⟨_, rfl⟩, .inr ⟨_, ⟨k, HS.out⟩, hJx3⟩⟩
    · have hdd' : decide ((d : Int) * (d : Int) ≤ (n : Int)) = false := decide_eq_false hdd
      have HS : Hid (n < tryAt k * tryAt k) := by show _ < _; rw [← HD.out]; omega
      clear qe hdd HD hY
      gi_wp2
      go_end0
      exact ⟨⟨_, rfl⟩, .inl ⟨pre, ⟨k, hF, HS.out⟩, hJs⟩⟩
set_option maxRecDepth 100000 in
set_option maxHeartbeats 4000000 in
theorem least_in (m : Nat) (hm : 5 ≤ m) (n : Nat) (w : World) (hn : n < 1099511627776) :
    CallsIn Fence.wide m Tryz.prog 83 #[.int .u64 (n : Int)] w fun e w' => ∃ d : Nat, e = .returned (.int .u64 (d : Int)) ∧ LeastOf n d ∧ d ≤ n ∧ Below w.heap.size w w' := by
  have h1 : 1 ≤ m := by omega
  refine callsIn_of_wp_marks Tryz.func83 rfl trivial ?_ rfl
  simp only [Tryz.ntmps83, List.size_toArray, List.length_cons, List.length_nil, Nat.reduceAdd, Nat.reduceSub, Array.replicate_succ, Array.replicate_zero, List.push_toArray, List.append_toArray, List.nil_append, List.cons_append]
  gi_wp2_with (refine ⟨trivial, ?_⟩; gi_at_call 123; refine (callsIn_wide.2 (divisors_any n _)).mono ?_; rintro e w' ⟨rfl, rfl⟩)
  have c0 := box_new w (.int .u64 (n : Int)) 22
  have c1 := box_new (w.alloc (.cells #[.int .u64 (n : Int)] 22)) (.int .u64 0) 22
  have c2 := box_new ((w.alloc (.cells #[.int .u64 (n : Int)] 22)).alloc (.cells #[.int .u64 0] 22)) (.int .u64 (n : Int)) 22
  simp only [World.size_alloc] at c1 c2
  have hB0 : Below w.heap.size w (((w.alloc (.cells #[.int .u64 (n : Int)] 22)).alloc (.cells #[.int .u64 0] 22)).alloc (.cells #[.int .u64 (n : Int)] 22)) := (((Below.refl _ w).alloc (Nat.le_refl _) _).alloc (by simp) _).alloc (by simp; omega) _
  refine wpIn_rangeFunc_ownF rfl h1 (gf := 149) (lb := #[.pointer (some ⟨w.heap.size + 1 + 1, 0, none⟩)]) rfl trivial (enters_of Tryz.func149 (by kernel_rfl) rfl)
    (divisors_stops (m - 1) (by omega) (w.heap.size + 1 + 1) (w.heap.size + 1 + 1 + 1) n _ hn (by omega) (by simp) c2.1) belowK_t (belowK_b (by simp)) (Below.refl _ _) (fun _ => rfl)
    (fun pre W => ((∀ y ∈ pre, ¬ y.1 ∣ n) ∧ W.cell? ⟨w.heap.size, 0, none⟩ = some (.int .u64 (n : Int)) ∧ W.cell? ⟨w.heap.size + 1, 0, none⟩ = some (.int .u64 0) ∧ W.frozen? ⟨w.heap.size + 1, 0, none⟩ = false) ∧ Below w.heap.size w W)
    (fun c pre W => (c = .ret ∧ (∃ (init : List Tried) (x : Tried), pre = init ++ [x] ∧ (∀ y ∈ init, ¬ y.1 ∣ n) ∧ x.1 ∣ n ∧ W.cell? ⟨w.heap.size + 1, 0, none⟩ = some (.int .u64 (x.1 : Int)))) ∧ Below w.heap.size w W)
    (OwnFrom.and (Own.from (fun s A B row hs hg hr => ⟨hs.1, cell_kept hs.2.1 hg hr, cell_kept hs.2.2.1 hg hr, (frozen_kept hs.2.2.1 hg hr).trans hs.2.2.2⟩) _) (ownFrom_below (Nat.le_refl _) (by simp; omega)))
    (fun c => OwnFrom.and (Own.from (fun s A B row hs hg hr => by obtain ⟨hc, i, x, hp, hi, hx, hcell⟩ := hs; exact ⟨hc, i, x, hp, hi, hx, cell_kept hcell hg hr⟩) _) (ownFrom_below (Nat.le_refl _) (by simp; omega)))
    ⟨⟨by simp, (box_on _ (box_on _ c0)).1, (box_on _ c1).1, (box_on _ c1).2⟩, hB0⟩
    (fun x => { tmps := #[.int .u64 (n : Int), .pointer (some ⟨w.heap.size, 0, none⟩), .pointer (some ⟨w.heap.size + 1, 0, none⟩), .int .u64 (x.1 : Int), .int .u64 (n : Int), .func (.func 149) #[] #[.pointer (some ⟨w.heap.size + 1 + 1, 0, none⟩)], .int .u64 (x.1 : Int), undef, undef, undef, undef, undef, undef], defers := [] }) ?assign ?body ?done ?stop
  case assign =>
    intro l x W K hK
    gi_wp2
    exact hK
  case body =>
    rintro l pre ⟨x, hx2, hx4⟩ W ⟨⟨hp, hcn, hcr, hfr⟩, hB⟩ _
    have hxp : (0 : Int) < (x : Int) := by omega
    have hxz : ¬ (x : Int) = 0 := by omega
    by_cases hr : (n : Int) % (x : Int) = 0
    · have hdv : x ∣ n := by
        have : ((n % x : Nat) : Int) = 0 := by rw [Int.natCast_emod]; exact hr
        exact Nat.dvd_of_mod_eq_zero (by omega)
      have HD : Hid (x ∣ n) := hdv
      clear hdv c0 c1 c2 hB0
      gi_wp2
      exact ⟨KeepsOthers.setCell _ _ _, ⟨rfl, pre, ⟨x, hx2, hx4⟩, rfl, hp, HD.out, World.cell?_setCell_same' _ _ _ (by rw [hcr]; rfl)⟩, hB.setCell (p := ⟨w.heap.size + 1, 0, none⟩) (by simp) _⟩
    · have hr' : ((n : Int) % (x : Int) == 0) = false := by simp [hr]
      have HD : Hid (¬ x ∣ n) := fun h => by
        apply hr
        have := Nat.mod_eq_zero_of_dvd h
        rw [← Int.natCast_emod]; omega
      clear hr c0 c1 c2 hB0
      gi_wp2
      exact ⟨KeepsOthers.refl _, Below.refl _ _, ⟨fun y hy => (List.mem_append.1 hy).elim (hp y) (fun e => by simp at e; subst e; exact HD.out), hcn, hcr, hfr⟩, hB⟩
  case done =>
    rintro D ys W hD ⟨k, hF, hk⟩ ⟨⟨hne, hcn, hcr, hfr⟩, hB⟩ hK
    have HL : Hid (LeastOf n n) := (hF.none hne).over hk
    clear hF hk hne c0 c1 c2 hB0
    gi_wp2
    have hK' := (KeepsOthers.setCell W ⟨w.heap.size + 1, 0, none⟩ (.int .u64 (n : Int))).same D _ hK rfl
    refine ⟨by simp, .inl ⟨_, _, rfl, run_takeDeferred hK', ?_⟩⟩
    have hc5 := cell_kept (World.cell?_setCell_same' W ⟨w.heap.size + 1, 0, none⟩ (.int .u64 (n : Int)) (by rw [hcr]; rfl)) (grownBy_putObj' _ D (.deferred none)) (fun r e => by cases e; exact ⟨_, hK', rfl⟩)
    refine ⟨.int .u64 (n : Int), ?_, n, rfl, HL.out, Nat.le_refl _, (hB.setCell (p := ⟨w.heap.size + 1, 0, none⟩) (by simp) _).trans (belowK_b (w := w) (Nat.le_refl _) _ D _ _ (by simp at hD; omega) hK' rfl rfl)⟩
    simp [results, Tryz.f83, go_sem, hc5]
  case stop =>
    rintro D c pre W hD ⟨k, hF, hk⟩ ⟨⟨rfl, init, x, rfl, hne, hdv, hcr⟩, hB⟩ hK
    obtain ⟨hF', hx⟩ := hF.last
    have HL : Hid (LeastOf n x.1 ∧ x.1 ≤ n) := by
      have hl : LeastOf n x.1 := by rw [hx]; exact (hF'.none hne).found (by rw [← hx]; exact hdv) hk
      refine ⟨hl, ?_⟩
      rw [hx]
      have := Nat.le_mul_of_pos_left (tryAt k) (show 0 < tryAt k by have := tryAt_ge k; omega)
      omega
    clear hF' hx hF hk hne hdv c0 c1 c2 hB0
    gi_wp2
    refine ⟨by simp, .inl ⟨_, _, rfl, run_takeDeferred hK, ?_⟩⟩
    have hc5 := cell_kept hcr (grownBy_putObj' _ D (.deferred none)) (fun r e => by cases e; exact ⟨_, hK, rfl⟩)
    refine ⟨.int .u64 (x.1 : Int), ?_, x.1, rfl, HL.out.1, HL.out.2, hB.trans (belowK_b (w := w) (Nat.le_refl _) W D _ _ (by simp at hD; omega) hK rfl rfl)⟩
    simp [results, Tryz.f83, go_sem, hc5]

theorem least_any (n : Nat) (w : World) (hn : n < 1099511627776) :
    Calls Tryz.prog 83 #[.int .u64 (n : Int)] w fun e w' => ∃ d : Nat, e = .returned (.int .u64 (d : Int)) ∧ LeastOf n d ∧ d ≤ n ∧ Below w.heap.size w w' := (callsIn_wide (n := 5)).1 (least_in 5 (by omega) n w hn)
end Go.Proofs.YtnbdbahfekneoaaGreat

namespace Go.Proofs.YtnbdbahfekneoaaGreat
open Go.RowKit

end Go.Proofs.YtnbdbahfekneoaaGreat

namespace Go.Proofs.YtnbdbahfekneoaaGreat
open Go.RowKit

/-- What is told of whether a proves that n is no prime. -/
def WitT (a n : Nat) (e : Ending) : Prop :=
  ((n % 2 = 0 ∨ n < 3 ∨ 1099511627776 ≤ n) ∧ e = .returned (.tuple #[.bool false, .int .i64 1])) ∨
  (¬ (n % 2 = 0 ∨ n < 3 ∨ 1099511627776 ≤ n) ∧ Wit a n ∧ e = .returned (.tuple #[.bool true, .int .i64 0])) ∨
  (¬ (n % 2 = 0 ∨ n < 3 ∨ 1099511627776 ≤ n) ∧ ¬ Wit a n ∧ e = .returned (.tuple #[.bool false, .int .i64 0]))

theorem ofZ_limb {x : Int} (h : 0 ≤ x ∧ x < 18446744073709551616) : Digs 18446744073709551616 (ofZ x) ∧ rightB (ofZ x) = true ∧ val 18446744073709551616 (ofZ x) = x := by
  unfold ofZ
  split
  · subst x; exact ⟨Digs.nil _, rfl, rfl⟩
  · refine ⟨fun y hy => ?_, ?_, ?_⟩
    · simp at hy; subst hy; exact h
    · simp [rightB]; assumption
    · simp [val]

theorem small_limb {ls : List Int} {x : Int} (hd : Digs 18446744073709551616 ls) (hr : rightB ls = true) (hv : val 18446744073709551616 ls = x) (hx : x < 18446744073709551616) : smallZ ls = x := by
  have hl : ls.length ≤ 1 := len_le (B := 18446744073709551616) (by decide) hd (right_top hr) (by rw [hv]; omega)
  unfold smallZ
  rw [hr, if_pos (by simpa using hl)]
  match ls, hl with
  | [], _ => simpa [val] using hv
  | [y], _ => simpa [val] using hv

theorem one_limb {n : Nat} (h : 0 < n) : ofZ (n : Int) = [(n : Int)] := by unfold ofZ; rw [if_neg (by omega)]
theorem pow_cast (a d n : Nat) : ((a : Int) % (n : Int)) ^ d % (n : Int) = ((a ^ d % n : Nat) : Int) := by
  have e : ((a : Int) % (n : Int)) = ((a % n : Nat) : Int) := by simp
  rw [e, ← Int.natCast_pow, ← Int.natCast_emod, ← Nat.pow_mod]
theorem two_pow_bd {d s n : Nat} (h : n = d * 2 ^ s) (h0 : 0 < d) (hn : n < 1099511627776) : s ≤ 40 := by
  rcases Nat.lt_or_ge 40 s with e | e
  · exfalso
    have h1 : 2 ^ 41 ≤ 2 ^ s := Nat.pow_le_pow_right (by omega) e
    have h2 : 1 * 2 ^ s ≤ d * 2 ^ s := Nat.mul_le_mul h0 (Nat.le_refl _)
    omega
  · exact e

theorem sq_step {a n k : Nat} {x y : Int} (hx : x = ((a ^ k % n : Nat) : Int)) (hy : y = x * x % (n : Int)) : y = ((a ^ (k * 2) % n : Nat) : Int) := by
  rw [hy, hx, pow_mod_sq]
  simp only [Int.natCast_emod, Int.natCast_mul]

end Go.Proofs.YtnbdbahfekneoaaGreat

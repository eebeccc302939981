/-
  Contracts of the program's own search for the least divisor, which ranges over a function that hands the divisors out; of Is and of Least.
-/
import Derived.Test.YtambpcgdaogojabGreatRefPrime
import Derived.Test.YtambpcgdaogojabGreatPrMath
import Derived.RangeFuncNested
import Derived.RangeFuncBound
import Derived.RangeFuncCalls
import Derived.RangeFuncLeaves
import Derived.RangeFuncFrom
import Derived.Shelf.Abstract
import Derived.Shelf.RegionOpen
import Derived.WalkKit
import Derived.OwnWalkIn
import Derived.TacticsInMore
import Derived.LoopNIn
import Derived.LoopIn
namespace Go.Proofs.YtambpcgdaogojabGreat
open Go.RowKit Go.Shelf

attribute [local go_sem] Oper.semAt_some

theorem box_new (W : World) (v : Value) (t : TypeId) : (W.alloc (.cells #[v] t)).cell? ⟨W.heap.size, 0, none⟩ = some v ∧ (W.alloc (.cells #[v] t)).frozen? ⟨W.heap.size, 0, none⟩ = false := ⟨by simp, by simp⟩
theorem box_on {W : World} {a : Addr} {v : Value} (o : Obj) (h : W.cell? a = some v ∧ W.frozen? a = false) : (W.alloc o).cell? a = some v ∧ (W.alloc o).frozen? a = false :=
  ⟨cell_kept h.1 (World.grownBy_alloc W o none) (fun r e => by cases e), (frozen_kept h.1 (World.grownBy_alloc W o none) (fun r e => by cases e)).trans h.2⟩

set_option maxHeartbeats 400000 in
theorem behind_any (d : Nat) (w : World) (hd : 2 ≤ d ∧ d < 1099511627776) :
    Calls Tryz.prog 127 #[.int .u64 (d : Int)] w fun e w' => e = .returned (.int .u64 (behindN d : Int)) ∧ w' = w := by
  by_cases c0 : d = 2
  · subst c0
    go_enter Tryz.func127, Tryz.ntmps127
    go_wp2
    go_ret
    exact ⟨rfl, rfl⟩
  have d0 : ((d : Int) == 2) = false := by simp; omega
  by_cases c1 : (d : Int) % 6 = 1
  · have e : behindN d = d + 4 := by unfold behindN; rw [if_neg c0, if_pos (by omega)]
    rw [e]
    clear c0 e
    go_enter Tryz.func127, Tryz.ntmps127
    go_wp2
    go_ret
    exact ⟨ret_int (by go_num), rfl⟩
  · have d1 : ((d : Int) % 6 == 1) = false := by simp [c1]
    have e : behindN d = d + 2 := by unfold behindN; rw [if_neg c0, if_neg (by omega)]
    rw [e]
    clear c0 c1 e
    go_enter Tryz.func127, Tryz.ntmps127
    go_wp2
    go_ret
    exact ⟨ret_int (by go_num), rfl⟩
set_option maxHeartbeats 400000 in
theorem divisors_any (n : Nat) (w : World) :
    Calls Tryz.prog 101 #[.int .u64 (n : Int)] w fun e w' => e = .returned (.func (.func 126) #[] #[.pointer (some ⟨w.heap.size, 0, none⟩)]) ∧ w' = w.alloc (.cells #[.int .u64 (n : Int)] 22) := by
  go_enter Tryz.func101, Tryz.ntmps101
  go_wp2
  go_ret
  exact ⟨rfl, rfl⟩

set_option maxRecDepth 100000 in
set_option maxHeartbeats 2000000 in
/-- The divisors that are handed out, for every loop body that keeps what lay. -/
theorem divisors_stops (m : Nat) (hm : 2 ≤ m) (Bn n₀ n : Nat) (w : World) (hn : n < 1099511627776) (hB : Bn < n₀) (hw : Bn < w.heap.size) (hc : w.cell? ⟨Bn, 0, none⟩ = some (.int .u64 (n : Int))) :
    SeqStopsK Fence.wide m Tryz.prog 126 #[.pointer (some ⟨Bn, 0, none⟩)] (fun x : Tried => #[.int .u64 (x.1 : Int)]) (Below n₀)
      (fun xs => ∃ k, Firsts k xs ∧ n < tryAt k * tryAt k) (fun pre => ∃ k, Firsts (k + 1) pre ∧ tryAt k * tryAt k ≤ n) 1048577 w := fun l J Jx W hW hJ hJx hY h0 => by
  have hcW : W.cell? ⟨Bn, 0, none⟩ = some (.int .u64 (n : Int)) := (hW.cell (p := ⟨Bn, 0, none⟩) hw).trans hc
  have h1 : 1 ≤ m := by omega
  have HT : Hid (∀ k, tryAt k * tryAt k ≤ n → tryAt k < 1048576 ∧ k < 1048576) := fun k h => tryAt_bd h hn
  clear hW hJ hJx hc hw
  refine callsIn_of_wp Tryz.func126 rfl trivial ?_ rfl
  simp only [Tryz.ntmps126, List.size_toArray, List.length_cons, List.length_nil, Nat.reduceAdd, Nat.reduceSub, Array.replicate_succ, Array.replicate_zero, List.push_toArray, List.append_toArray, List.nil_append, List.cons_append]
  gi_wp2
  gi_loopw [3] (fun dv wr => ∃ (d k : Nat) (pre : List Tried), dv = .int .u64 (d : Int) ∧ Hid (d = tryAt k) ∧ 2 ≤ d ∧ d ≤ 1048580 ∧ Firsts k pre ∧ wr.cell? ⟨Bn, 0, none⟩ = some (.int .u64 (n : Int)) ∧ J pre wr)
    (fun dv _ => 1099511627776 - (intOf dv).toNat)
  case atStart => exact ⟨2, 0, [], rfl, rfl, by omega, by omega, Firsts.nil, hcW, h0⟩
  case round =>
    obtain ⟨d, k, pre, rfl, HD, hd2, hd5, hF, hcr, hJs⟩ := hrel
    clear hcW h0
    have q1 : (d : Int) * (d : Int) ≤ 1048580 * 1048580 := Int.mul_le_mul (by omega) (by omega) (by omega) (by omega)
    have q0 : 0 ≤ (d : Int) * (d : Int) := Int.mul_nonneg (by omega) (by omega)
    have q2 : (d : Int) * (d : Int) < 18446744073709551616 := by omega
    have qe : ((d * d : Nat) : Int) = (d : Int) * (d : Int) := Int.natCast_mul d d
    by_cases hdd : (d : Int) * (d : Int) ≤ (n : Int)
    · have hdn : d * d ≤ n := by omega
      obtain ⟨hk1, hk2⟩ := HT.out k (by rw [← HD.out]; exact hdn)
      rw [← HD.out] at hk1
      have HS : Hid (Firsts (k + 1) (pre ++ [⟨d, by omega, by omega⟩]) ∧ tryAt k * tryAt k ≤ n) := ⟨hF.snoc _ HD.out, by rw [← HD.out]; exact hdn⟩
      have HN : Hid (behindN d = tryAt (k + 1)) := by show _ = behindN _; rw [HD.out]
      have hbn := behindN_gt d
      have hlen := hF.len
      obtain ⟨fn, tmps, assign, body, hy, hR⟩ := hY pre ⟨d, by omega, by omega⟩ wr hJs (by omega)
      dsimp only at hy
      clear qe hdn HD hF hJs
      gi_wp2
      refine hR.mono ?_
      rintro e W3 (⟨rfl, hJ3, hk3⟩ | ⟨rfl, hJx3⟩)
      · have hc3 : W3.cell? ⟨Bn, 0, none⟩ = some (.int .u64 (n : Int)) := (hk3.cell (p := ⟨Bn, 0, none⟩) hB).trans hcr
        clear hR hy hY hcr
        gi_wp2_with (refine ⟨trivial, ?_⟩; gi_at_call 127; refine (callsIn_wide.2 (behind_any d _ ⟨hd2, by omega⟩)).mono ?_; rintro e w' ⟨rfl, rfl⟩)
        go_roundw
        case rel => exact ⟨behindN d, k + 1, pre ++ [⟨d, by omega, by omega⟩], rfl, HN, by omega, by omega, HS.out.1, hc3, hJ3⟩
        case measure => simp [intOf]; omega
      · clear hR hy hY
        gi_wp2
        refine bodyPost_ret (results_none rfl _ _ _) rfl ?_
        exact ⟨⟨_, rfl⟩, .inr ⟨_, ⟨k, HS.out⟩, hJx3⟩⟩
    · have hdd' : decide ((d : Int) * (d : Int) ≤ (n : Int)) = false := decide_eq_false hdd
      have HS : Hid (n < tryAt k * tryAt k) := by show _ < _; rw [← HD.out]; omega
      clear qe hdd HD hY
      gi_wp2
      go_end0
      exact ⟨⟨_, rfl⟩, .inl ⟨pre, ⟨k, hF, HS.out⟩, hJs⟩⟩
set_option maxRecDepth 100000 in
set_option maxHeartbeats 4000000 in
theorem least_in (m : Nat) (hm : 5 ≤ m) (n : Nat) (w : World) (hn : n < 1099511627776) :
    CallsIn Fence.wide m Tryz.prog 66 #[.int .u64 (n : Int)] w fun e w' => ∃ d : Nat, e = .returned (.int .u64 (d : Int)) ∧ LeastOf n d ∧ d ≤ n ∧ Below w.heap.size w w' := by
  have h1 : 1 ≤ m := by omega
  refine callsIn_of_wp_marks Tryz.func66 rfl trivial ?_ rfl
  simp only [Tryz.ntmps66, List.size_toArray, List.length_cons, List.length_nil, Nat.reduceAdd, Nat.reduceSub, Array.replicate_succ, Array.replicate_zero, List.push_toArray, List.append_toArray, List.nil_append, List.cons_append]
  gi_wp2_with (refine ⟨trivial, ?_⟩; gi_at_call 101; refine (callsIn_wide.2 (divisors_any n _)).mono ?_; rintro e w' ⟨rfl, rfl⟩)
  have c0 := box_new w (.int .u64 (n : Int)) 22
  have c1 := box_new (w.alloc (.cells #[.int .u64 (n : Int)] 22)) (.int .u64 0) 22
  have c2 := box_new ((w.alloc (.cells #[.int .u64 (n : Int)] 22)).alloc (.cells #[.int .u64 0] 22)) (.int .u64 (n : Int)) 22
  simp only [World.size_alloc] at c1 c2
  have hB0 : Below w.heap.size w (((w.alloc (.cells #[.int .u64 (n : Int)] 22)).alloc (.cells #[.int .u64 0] 22)).alloc (.cells #[.int .u64 (n : Int)] 22)) := (((Below.refl _ w).alloc (Nat.le_refl _) _).alloc (by simp) _).alloc (by simp; omega) _
  refine wpIn_rangeFunc_ownF rfl h1 (gf := 126) (lb := #[.pointer (some ⟨w.heap.size + 1 + 1, 0, none⟩)]) rfl trivial (enters_of Tryz.func126 (by kernel_rfl) rfl)
    (divisors_stops (m - 1) (by omega) (w.heap.size + 1 + 1) (w.heap.size + 1 + 1 + 1) n _ hn (by omega) (by simp) c2.1) belowK_t (belowK_b (by simp)) (Below.refl _ _) (fun _ => rfl)
    (fun pre W => ((∀ y ∈ pre, ¬ y.1 ∣ n) ∧ W.cell? ⟨w.heap.size, 0, none⟩ = some (.int .u64 (n : Int)) ∧ W.cell? ⟨w.heap.size + 1, 0, none⟩ = some (.int .u64 0) ∧ W.frozen? ⟨w.heap.size + 1, 0, none⟩ = false) ∧ Below w.heap.size w W)
    (fun c pre W => (c = .ret ∧ (∃ (init : List Tried) (x : Tried), pre = init ++ [x] ∧ (∀ y ∈ init, ¬ y.1 ∣ n) ∧ x.1 ∣ n ∧ W.cell? ⟨w.heap.size + 1, 0, none⟩ = some (.int .u64 (x.1 : Int)))) ∧ Below w.heap.size w W)
    (OwnFrom.and (Own.from (fun s A B row hs hg hr => ⟨hs.1, cell_kept hs.2.1 hg hr, cell_kept hs.2.2.1 hg hr, (frozen_kept hs.2.2.1 hg hr).trans hs.2.2.2⟩) _) (ownFrom_below (Nat.le_refl _) (by simp; omega)))
    (fun c => OwnFrom.and (Own.from (fun s A B row hs hg hr => by obtain ⟨hc, i, x, hp, hi, hx, hcell⟩ := hs; exact ⟨hc, i, x, hp, hi, hx, cell_kept hcell hg hr⟩) _) (ownFrom_below (Nat.le_refl _) (by simp; omega)))
    ⟨⟨by simp, (box_on _ (box_on _ c0)).1, (box_on _ c1).1, (box_on _ c1).2⟩, hB0⟩
    (fun x => { tmps := #[.int .u64 (n : Int), .pointer (some ⟨w.heap.size, 0, none⟩), .pointer (some ⟨w.heap.size + 1, 0, none⟩), .int .u64 (x.1 : Int), .int .u64 (n : Int), .func (.func 126) #[] #[.pointer (some ⟨w.heap.size + 1 + 1, 0, none⟩)], .int .u64 (x.1 : Int), undef, undef, undef, undef, undef, undef], defers := [] }) ?assign ?body ?done ?stop
  case assign =>
    intro l x W K hK
    gi_wp2
    exact hK
  case body =>
    rintro l pre ⟨x, hx2, hx4⟩ W ⟨⟨hp, hcn, hcr, hfr⟩, hB⟩ _
    have hxp : (0 : Int) < (x : Int) := by omega
    have hxz : ¬ (x : Int) = 0 := by omega
    by_cases hr : (n : Int) % (x : Int) = 0
    · have hdv : x ∣ n := by
        have : ((n % x : Nat) : Int) = 0 := by rw [Int.natCast_emod]; exact hr
        exact Nat.dvd_of_mod_eq_zero (by omega)
      have HD : Hid (x ∣ n) := hdv
      clear hdv c0 c1 c2 hB0
      gi_wp2
      exact ⟨KeepsOthers.setCell _ _ _, ⟨rfl, pre, ⟨x, hx2, hx4⟩, rfl, hp, HD.out, World.cell?_setCell_same' _ _ _ (by rw [hcr]; rfl)⟩, hB.setCell (p := ⟨w.heap.size + 1, 0, none⟩) (by simp) _⟩
    · have hr' : ((n : Int) % (x : Int) == 0) = false := by simp [hr]
      have HD : Hid (¬ x ∣ n) := fun h => by
        apply hr
        have := Nat.mod_eq_zero_of_dvd h
        rw [← Int.natCast_emod]; omega
      clear hr c0 c1 c2 hB0
      gi_wp2
      exact ⟨KeepsOthers.refl _, Below.refl _ _, ⟨fun y hy => (List.mem_append.1 hy).elim (hp y) (fun e => by simp at e; subst e; exact HD.out), hcn, hcr, hfr⟩, hB⟩
  case done =>
    rintro D ys W hD ⟨k, hF, hk⟩ ⟨⟨hne, hcn, hcr, hfr⟩, hB⟩ hK
    have HL : Hid (LeastOf n n) := (hF.none hne).over hk
    clear hF hk hne c0 c1 c2 hB0
    gi_wp2
    have hK' := (KeepsOthers.setCell W ⟨w.heap.size + 1, 0, none⟩ (.int .u64 (n : Int))).same D _ hK rfl
    refine ⟨by simp, .inl ⟨_, _, rfl, run_takeDeferred hK', ?_⟩⟩
    have hc5 := cell_kept (World.cell?_setCell_same' W ⟨w.heap.size + 1, 0, none⟩ (.int .u64 (n : Int)) (by rw [hcr]; rfl)) (grownBy_putObj' _ D (.deferred none)) (fun r e => by cases e; exact ⟨_, hK', rfl⟩)
    refine ⟨.int .u64 (n : Int), ?_, n, rfl, HL.out, Nat.le_refl _, (hB.setCell (p := ⟨w.heap.size + 1, 0, none⟩) (by simp) _).trans (belowK_b (w := w) (Nat.le_refl _) _ D _ _ (by simp at hD; omega) hK' rfl rfl)⟩
    simp [results, Tryz.f66, go_sem, hc5]
  case stop =>
    rintro D c pre W hD ⟨k, hF, hk⟩ ⟨⟨rfl, init, x, rfl, hne, hdv, hcr⟩, hB⟩ hK
    obtain ⟨hF', hx⟩ := hF.last
    have HL : Hid (LeastOf n x.1 ∧ x.1 ≤ n) := by
      have hl : LeastOf n x.1 := by rw [hx]; exact (hF'.none hne).found (by rw [← hx]; exact hdv) hk
      refine ⟨hl, ?_⟩
      rw [hx]
      have := Nat.le_mul_of_pos_left (tryAt k) (show 0 < tryAt k by have := tryAt_ge k; omega)
      omega
    clear hF' hx hF hk hne hdv c0 c1 c2 hB0
    gi_wp2
    refine ⟨by simp, .inl ⟨_, _, rfl, run_takeDeferred hK, ?_⟩⟩
    have hc5 := cell_kept hcr (grownBy_putObj' _ D (.deferred none)) (fun r e => by cases e; exact ⟨_, hK, rfl⟩)
    refine ⟨.int .u64 (x.1 : Int), ?_, x.1, rfl, HL.out.1, HL.out.2, hB.trans (belowK_b (w := w) (Nat.le_refl _) W D _ _ (by simp at hD; omega) hK rfl rfl)⟩
    simp [results, Tryz.f66, go_sem, hc5]

theorem least_any (n : Nat) (w : World) (hn : n < 1099511627776) :
    Calls Tryz.prog 66 #[.int .u64 (n : Int)] w fun e w' => ∃ d : Nat, e = .returned (.int .u64 (d : Int)) ∧ LeastOf n d ∧ d ≤ n ∧ Below w.heap.size w w' := (callsIn_wide (n := 5)).1 (least_in 5 (by omega) n w hn)
end Go.Proofs.YtambpcgdaogojabGreat

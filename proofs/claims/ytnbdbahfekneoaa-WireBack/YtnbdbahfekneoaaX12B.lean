/-
  Contracts of the program's kindOf, hasNumbers, hasLists (wire).
-/
import Derived.Test.YtnbdbahfekneoaaX12K
import Derived.Test.YtnbdbahfekneoaaP12Open
import Derived.Deep.RegionWith
import Derived.BigRegion
namespace Go.Proofs.Ytnbdbahfekneoaa
open Go.RowKit

/-- What a kind has: the most of A, B, C; of each list how many. -/
def kA (k : Nat) : Int := if k = 0 then 0 else 1073741824
def kB (k : Nat) : Int := if k = 0 ∨ k = 3 ∨ k = 10 ∨ k = 11 then 0 else 1073741824
def kC (k : Nat) : Int := if k = 7 then 1073741824 else if k = 9 then 1 else 0
def kIl (k : Nat) : Int := if k = 6 then 1 else 0
def kIm (k : Nat) : Int := if k = 5 ∨ k = 6 then 16384 else 0
def kRm (k : Nat) : Int := if k = 4 ∨ k = 7 then 16384 else 0
def kNl (k : Nat) : Int := if k = 1 then 1 else 0
def kNm (k : Nat) : Int := if k = 1 then 1 else if k = 3 ∨ k = 5 then 16384 else 0
def kP (k : Nat) : Bool := decide (k = 5)
def kindR (k : Nat) : Array Value := #[.int .i64 (kA k), .int .i64 (kB k), .int .i64 (kC k), .int .i64 (kIl k), .int .i64 (kIm k), .int .i64 0, .int .i64 (kRm k), .int .i64 (kNl k), .int .i64 (kNm k), .bool (kP k)]
theorem run_kinds_all (w : World) : ((List.range 12).map fun (K : Nat) => (Instr.index 74 (.agg kindsA) (.int .i64 (K : Int))).run Try.prog w) = (List.range 12).map (fun (K : Nat) => .ok (.agg (kindR K)) w) := by kernel_rfl
theorem run_kinds (w : World) (K : Nat) (hK : K < 12) : (Instr.index 74 (.agg kindsA) (.int .i64 (K : Int))).run Try.prog w = .ok (.agg (kindR K)) w := by
  have h := congrArg (fun l => l[K]?) (run_kinds_all w)
  simpa [List.getElem?_map, List.getElem?_range, hK] using h
theorem cells10 {w : World} {g : Nat} {x0 x1 x2 x3 x4 x5 x6 x7 x8 x9 : Value} {t : TypeId} (h : w.heap[g]? = some (.cells #[x0, x1, x2, x3, x4, x5, x6, x7, x8, x9] t (0, 0))) :
    (w.cell? ⟨g, 0, none⟩ = some x0 ∧ w.cell? ⟨g, 1, none⟩ = some x1 ∧ w.cell? ⟨g, 2, none⟩ = some x2 ∧ w.cell? ⟨g, 3, none⟩ = some x3 ∧ w.cell? ⟨g, 4, none⟩ = some x4 ∧ w.cell? ⟨g, 5, none⟩ = some x5 ∧ w.cell? ⟨g, 6, none⟩ = some x6 ∧ w.cell? ⟨g, 7, none⟩ = some x7 ∧ w.cell? ⟨g, 8, none⟩ = some x8 ∧ w.cell? ⟨g, 9, none⟩ = some x9) ∧ ∀ j, w.frozen? ⟨g, j, none⟩ = false := by
  refine ⟨⟨?_, ?_, ?_, ?_, ?_, ?_, ?_, ?_, ?_, ?_⟩, fun j => frozen_of_row w g j _ _ h⟩ <;> (rw [cell_of_row w g _ _ _ _ h]; rfl)

theorem below_put10 {B g : Nat} {w w3 : World} (h : Below B w w3) (hg : B ≤ g) (v0 v1 v2 v3 v4 v5 v6 v7 v8 v9 : Value) : Below B w ((((((((((w3.setCell ⟨g, 0, none⟩ v0).setCell ⟨g, 1, none⟩ v1).setCell ⟨g, 2, none⟩ v2).setCell ⟨g, 3, none⟩ v3).setCell ⟨g, 4, none⟩ v4).setCell ⟨g, 5, none⟩ v5).setCell ⟨g, 6, none⟩ v6).setCell ⟨g, 7, none⟩ v7).setCell ⟨g, 8, none⟩ v8).setCell ⟨g, 9, none⟩ v9) := by
  refine Below.setCell (p := ⟨g, 9, none⟩) ?_ hg _
  refine Below.setCell (p := ⟨g, 8, none⟩) ?_ hg _
  refine Below.setCell (p := ⟨g, 7, none⟩) ?_ hg _
  refine Below.setCell (p := ⟨g, 6, none⟩) ?_ hg _
  refine Below.setCell (p := ⟨g, 5, none⟩) ?_ hg _
  refine Below.setCell (p := ⟨g, 4, none⟩) ?_ hg _
  refine Below.setCell (p := ⟨g, 3, none⟩) ?_ hg _
  refine Below.setCell (p := ⟨g, 2, none⟩) ?_ hg _
  refine Below.setCell (p := ⟨g, 1, none⟩) ?_ hg _
  exact h.setCell (p := ⟨g, 0, none⟩) hg _

set_option maxRecDepth 100000 in
set_option maxHeartbeats 3200000 in
theorem x12of_any (K : Nat) (a b c : Int) (pi : Option Addr) (li ci : Nat) (pr : Option Addr) (lr cr : Nat) (pn : Option Addr) (ln cn : Nat) (w : World) (h1 : 1 ≤ K) (h2 : K ≤ 11) :
    Calls Try.prog 16 #[.agg #[.int .i64 (K : Int), .int .i64 a, .int .i64 b, .int .i64 c, .slice pi li ci, .slice pr lr cr, .slice pn ln cn]] w fun e w' => e = .returned (.tuple #[.agg (kindR K), .bool true]) ∧ Below w.heap.size w w' := by
  have hk1 : decide ((K : Int) < 1) = false := decide_eq_false (by omega)
  have hk2 : decide (11 < (K : Int)) = false := decide_eq_false (by omega)
  have hK : K < 12 := by omega
  have B1 := balloc w (.cells #[.int .i64 (K : Int), .int .i64 a, .int .i64 b, .int .i64 c, .slice pi li ci, .slice pr lr cr, .slice pn ln cn] 25)
  have c0 : (w.alloc (.cells #[.int .i64 (K : Int), .int .i64 a, .int .i64 b, .int .i64 c, .slice pi li ci, .slice pr lr cr, .slice pn ln cn] 25)).cell? ⟨w.heap.size, 0, none⟩ = some (.int .i64 (K : Int)) := by simp
  obtain ⟨W1, hW1⟩ : ∃ W1, W1 = w.alloc (.cells #[.int .i64 (K : Int), .int .i64 a, .int .i64 b, .int .i64 c, .slice pi li ci, .slice pr lr cr, .slice pn ln cn] 25) := ⟨_, rfl⟩
  rw [← hW1] at B1 c0
  obtain ⟨V, hV⟩ : ∃ V, V = W1.alloc (.cells #[.int .i64 0, .int .i64 0, .int .i64 0, .int .i64 0, .int .i64 0, .int .i64 0, .int .i64 0, .int .i64 0, .int .i64 0, .bool false] 39) := ⟨_, rfl⟩
  have B2 : Below W1.heap.size W1 V := by rw [hV]; exact balloc _ _
  have n1 : V.heap[W1.heap.size]? = some (.cells #[.int .i64 0, .int .i64 0, .int .i64 0, .int .i64 0, .int .i64 0, .int .i64 0, .int .i64 0, .int .i64 0, .int .i64 0, .bool false] 39 (0, 0)) := by rw [hV]; exact heap_alloc_new _ _
  have hVs : W1.heap.size < V.heap.size := by rw [hV]; simp
  have hs1 : W1.heap.size = w.heap.size + 1 := by rw [hW1]; simp
  have c0V := bkeep B2 c0 rfl
  have B12 := bthen B1 B2
  obtain ⟨g, hg⟩ : ∃ g, g = W1.heap.size := ⟨_, rfl⟩
  rw [← hg] at n1 hVs hs1
  have HC : Hid (∀ wx : World, wx.heap = V.heap → wx.os = V.os → wx.tape = V.tape → wx.output = V.output → Calls Try.prog 41 #[] wx fun e w' => e = .returned (.agg kindsA) ∧ w'.cell? ⟨w.heap.size, 0, none⟩ = some (.int .i64 (K : Int)) ∧ w'.heap[g]? = some (.cells #[.int .i64 0, .int .i64 0, .int .i64 0, .int .i64 0, .int .i64 0, .int .i64 0, .int .i64 0, .int .i64 0, .int .i64 0, .bool false] 39 (0, 0)) ∧ Below w.heap.size w w') := fun wx y1 y2 y3 y4 => by
    refine (x12kinds_any wx).mono ?_
    rintro e w' ⟨rfl, hb⟩
    have hbV : Below V.heap.size V w' := ⟨hb.os.trans y2, hb.tape.trans y3, hb.output.trans y4, by rw [← y1]; exact hb.size, fun k hk => by rw [hb.block k (by rw [y1]; exact hk), y1]⟩
    exact ⟨rfl, bkeep hbV c0V rfl, (hbV.block g hVs).trans n1, bthen B12 hbV⟩
  have HK := fun w : World => run_kinds w K hK
  obtain ⟨kS, hkS⟩ : ∃ kS, kS = kindsA := ⟨_, rfl⟩
  rw [← hkS] at HK HC
  unfold kindR at HK ⊢
  have HH : Hid (V = W1.alloc (.cells #[.int .i64 0, .int .i64 0, .int .i64 0, .int .i64 0, .int .i64 0, .int .i64 0, .int .i64 0, .int .i64 0, .int .i64 0, .bool false] 39) ∧ W1 = w.alloc (.cells #[.int .i64 (K : Int), .int .i64 a, .int .i64 b, .int .i64 c, .slice pi li ci, .slice pr lr cr, .slice pn ln cn] 25) ∧ g = w.heap.size + 1 ∧ w.heap.size ≤ g) := ⟨hV, hW1, hs1, by omega⟩
  clear h1 h2 hV hW1 hkS B1 B2 B12 c0 hVs hs1 hg n1 hK
  generalize kA K = x0 at *
  generalize kB K = x1 at *
  generalize kC K = x2 at *
  generalize kIl K = x3 at *
  generalize kIm K = x4 at *
  generalize kRm K = x6 at *
  generalize kNl K = x7 at *
  generalize kNm K = x8 at *
  generalize kP K = x9 at *
  go_enter Try.func16, Try.ntmps16
  go_wp2_with fail
  rw [← HH.out.2.1, ← HH.out.1, ← HH.out.2.2.1]
  go_region_with (first
      | (go_at_call 41; with_reducible refine Calls.mono (HC.out _ rfl rfl rfl rfl) ?_; rintro e w3 ⟨rfl, d0, hq, hb3⟩; obtain ⟨⟨r0, r1, r2, r3, r4, r5, r6, r7, r8, r9⟩, fz⟩ := cells10 hq; (have f0 := fz 0; have f1 := fz 1; have f2 := fz 2; have f3 := fz 3; have f4 := fz 4; have f5 := fz 5; have f6 := fz 6; have f7 := fz 7; have f8 := fz 8; have f9 := fz 9); clear fz hq))
  all_goals
    have HBp : Hid (∀ v0 v1 v2 v3 v4 v5 v6 v7 v8 v9 : Value, Below w.heap.size w ((((((((((w3.setCell ⟨g, 0, none⟩ v0).setCell ⟨g, 1, none⟩ v1).setCell ⟨g, 2, none⟩ v2).setCell ⟨g, 3, none⟩ v3).setCell ⟨g, 4, none⟩ v4).setCell ⟨g, 5, none⟩ v5).setCell ⟨g, 6, none⟩ v6).setCell ⟨g, 7, none⟩ v7).setCell ⟨g, 8, none⟩ v8).setCell ⟨g, 9, none⟩ v9)) := fun v0 v1 v2 v3 v4 v5 v6 v7 v8 v9 => below_put10 hb3 HH.out.2.2.2 v0 v1 v2 v3 v4 v5 v6 v7 v8 v9
    clear HC hb3 HH HK
    go_wp2_with fail
    refine bodyPost_ret (v := .tuple #[.agg #[.int .i64 x0, .int .i64 x1, .int .i64 x2, .int .i64 x3, .int .i64 x4, .int .i64 0, .int .i64 x6, .int .i64 x7, .int .i64 x8, .bool x9], .bool true]) (by simp [results, Try.results16, go_sem, r0, r1, r2, r3, r4, r5, r6, r7, r8, r9]) rfl ?_
    exact ⟨rfl, by first | exact HBp.out _ _ _ _ _ _ _ _ _ _ | (have h := HBp.out _ _ _ _ _ _ _ _ _ _; exact ⟨h.os, h.tape, h.output, h.size, h.block⟩)⟩
set_option maxRecDepth 100000 in
set_option maxHeartbeats 3200000 in
theorem x12no_any (k a b c : Int) (pi : Option Addr) (li ci : Nat) (pr : Option Addr) (lr cr : Nat) (pn : Option Addr) (ln cn : Nat) (w : World) (h : k < 1 ∨ 11 < k) :
    Calls Try.prog 16 #[.agg #[.int .i64 k, .int .i64 a, .int .i64 b, .int .i64 c, .slice pi li ci, .slice pr lr cr, .slice pn ln cn]] w fun e w' => e = .returned (.tuple #[.agg #[.int .i64 0, .int .i64 0, .int .i64 0, .int .i64 0, .int .i64 0, .int .i64 0, .int .i64 0, .int .i64 0, .int .i64 0, .bool false], .bool false]) ∧ Below w.heap.size w w' := by
  have B1 := balloc w (.cells #[.int .i64 k, .int .i64 a, .int .i64 b, .int .i64 c, .slice pi li ci, .slice pr lr cr, .slice pn ln cn] 25)
  have c0 : (w.alloc (.cells #[.int .i64 k, .int .i64 a, .int .i64 b, .int .i64 c, .slice pi li ci, .slice pr lr cr, .slice pn ln cn] 25)).cell? ⟨w.heap.size, 0, none⟩ = some (.int .i64 k) := by simp
  obtain ⟨W1, hW1⟩ : ∃ W1, W1 = w.alloc (.cells #[.int .i64 k, .int .i64 a, .int .i64 b, .int .i64 c, .slice pi li ci, .slice pr lr cr, .slice pn ln cn] 25) := ⟨_, rfl⟩
  rw [← hW1] at B1 c0
  obtain ⟨V, hV⟩ : ∃ V, V = W1.alloc (.cells #[.int .i64 0, .int .i64 0, .int .i64 0, .int .i64 0, .int .i64 0, .int .i64 0, .int .i64 0, .int .i64 0, .int .i64 0, .bool false] 39) := ⟨_, rfl⟩
  have B2 : Below W1.heap.size W1 V := by rw [hV]; exact balloc _ _
  have n1 : V.heap[W1.heap.size]? = some (.cells #[.int .i64 0, .int .i64 0, .int .i64 0, .int .i64 0, .int .i64 0, .int .i64 0, .int .i64 0, .int .i64 0, .int .i64 0, .bool false] 39 (0, 0)) := by rw [hV]; exact heap_alloc_new _ _
  have hs1 : W1.heap.size = w.heap.size + 1 := by rw [hW1]; simp
  replace c0 := bkeep B2 c0 rfl
  have B12 := bthen B1 B2
  obtain ⟨g, hg⟩ : ∃ g, g = W1.heap.size := ⟨_, rfl⟩
  rw [← hg] at n1 hs1
  have HH : Hid (V = W1.alloc (.cells #[.int .i64 0, .int .i64 0, .int .i64 0, .int .i64 0, .int .i64 0, .int .i64 0, .int .i64 0, .int .i64 0, .int .i64 0, .bool false] 39) ∧ W1 = w.alloc (.cells #[.int .i64 k, .int .i64 a, .int .i64 b, .int .i64 c, .slice pi li ci, .slice pr lr cr, .slice pn ln cn] 25) ∧ g = w.heap.size + 1 ∧ w.heap.size ≤ g) := ⟨hV, hW1, hs1, by omega⟩
  have HB : Hid (∀ v0 v1 v2 v3 v4 v5 v6 v7 v8 v9 : Value, Below w.heap.size w ((((((((((V.setCell ⟨g, 0, none⟩ v0).setCell ⟨g, 1, none⟩ v1).setCell ⟨g, 2, none⟩ v2).setCell ⟨g, 3, none⟩ v3).setCell ⟨g, 4, none⟩ v4).setCell ⟨g, 5, none⟩ v5).setCell ⟨g, 6, none⟩ v6).setCell ⟨g, 7, none⟩ v7).setCell ⟨g, 8, none⟩ v8).setCell ⟨g, 9, none⟩ v9)) := fun v0 v1 v2 v3 v4 v5 v6 v7 v8 v9 => below_put10 B12 HH.out.2.2.2 v0 v1 v2 v3 v4 v5 v6 v7 v8 v9
  obtain ⟨⟨r0, r1, r2, r3, r4, r5, r6, r7, r8, r9⟩, fz⟩ := cells10 n1
  have f0 := fz 0
  have f1 := fz 1
  have f2 := fz 2
  have f3 := fz 3
  have f4 := fz 4
  have f5 := fz 5
  have f6 := fz 6
  have f7 := fz 7
  have f8 := fz 8
  have f9 := fz 9
  clear B1 B2 B12 hV hW1 hs1 hg n1 fz
  by_cases h1 : k < 1
  · have hk1 : decide (k < 1) = true := decide_eq_true h1
    go_enter Try.func16, Try.ntmps16
    go_upto_region 1 with fail
    rw [← HH.out.2.1, ← HH.out.1, ← HH.out.2.2.1]
    go_wp2_with fail
    refine bodyPost_ret (v := .tuple #[.agg #[.int .i64 0, .int .i64 0, .int .i64 0, .int .i64 0, .int .i64 0, .int .i64 0, .int .i64 0, .int .i64 0, .int .i64 0, .bool false], .bool false]) (by simp [results, Try.results16, go_sem, r0, r1, r2, r3, r4, r5, r6, r7, r8, r9]) rfl ?_
    exact ⟨rfl, HB.out _ _ _ _ _ _ _ _ _ _⟩
  · have hk1 : decide (k < 1) = false := decide_eq_false h1
    have h2 : 11 < k := by omega
    have hk2 : decide (11 < k) = true := decide_eq_true h2
    go_enter Try.func16, Try.ntmps16
    go_upto_region 1 with fail
    rw [← HH.out.2.1, ← HH.out.1, ← HH.out.2.2.1]
    go_wp2_with fail
    refine bodyPost_ret (v := .tuple #[.agg #[.int .i64 0, .int .i64 0, .int .i64 0, .int .i64 0, .int .i64 0, .int .i64 0, .int .i64 0, .int .i64 0, .int .i64 0, .bool false], .bool false]) (by simp [results, Try.results16, go_sem, r0, r1, r2, r3, r4, r5, r6, r7, r8, r9]) rfl ?_
    exact ⟨rfl, HB.out _ _ _ _ _ _ _ _ _ _⟩

set_option maxRecDepth 100000 in
set_option maxHeartbeats 3200000 in
theorem x12hn_any (ka kb kc il im rl rm nl nm : Int) (p : Bool) (k a b c : Int) (pi : Option Addr) (li ci : Nat) (pr : Option Addr) (lr cr : Nat) (pn : Option Addr) (ln cn : Nat) (w : World) :
    Calls Try.prog 17 #[.agg #[.int .i64 ka, .int .i64 kb, .int .i64 kc, .int .i64 il, .int .i64 im, .int .i64 rl, .int .i64 rm, .int .i64 nl, .int .i64 nm, .bool p], .agg #[.int .i64 k, .int .i64 a, .int .i64 b, .int .i64 c, .slice pi li ci, .slice pr lr cr, .slice pn ln cn]] w fun e w' => e = .returned (.bool (upB a ka && upB b kb && upB c kc)) ∧ Below w.heap.size w w' := by
  obtain ⟨r1, h1⟩ : ∃ r1, r1 = upB a ka := ⟨_, rfl⟩
  obtain ⟨r2, h2⟩ : ∃ r1, r1 = upB b kb := ⟨_, rfl⟩
  obtain ⟨r3, h3⟩ : ∃ r1, r1 = upB c kc := ⟨_, rfl⟩
  have H1 : Hid (∀ w : World, Calls Try.prog 42 #[.int .i64 a, .int .i64 ka] w fun e w' => e = .returned (.bool r1) ∧ w = w') := by rw [h1]; exact x12up_any a ka
  have H2 : Hid (∀ w : World, Calls Try.prog 42 #[.int .i64 b, .int .i64 kb] w fun e w' => e = .returned (.bool r2) ∧ w = w') := by rw [h2]; exact x12up_any b kb
  have H3 : Hid (∀ w : World, Calls Try.prog 42 #[.int .i64 c, .int .i64 kc] w fun e w' => e = .returned (.bool r3) ∧ w = w') := by rw [h3]; exact x12up_any c kc
  rw [← h1, ← h2, ← h3]
  have B1 := balloc w (.cells #[.int .i64 ka, .int .i64 kb, .int .i64 kc, .int .i64 il, .int .i64 im, .int .i64 rl, .int .i64 rm, .int .i64 nl, .int .i64 nm, .bool p] 39)
  have B2 := balloc (w.alloc (.cells #[.int .i64 ka, .int .i64 kb, .int .i64 kc, .int .i64 il, .int .i64 im, .int .i64 rl, .int .i64 rm, .int .i64 nl, .int .i64 nm, .bool p] 39)) (.cells #[.int .i64 k, .int .i64 a, .int .i64 b, .int .i64 c, .slice pi li ci, .slice pr lr cr, .slice pn ln cn] 25)
  have HB := (show Hid _ from bthen B1 B2)
  clear B1 B2 h1 h2 h3
  cases r1 with
  | false =>
    go_enter Try.func17, Try.ntmps17
    go_wp2_with fail
    refine Calls.mono (H1.out _) ?_
    rintro e w1 ⟨rfl, rfl⟩
    clear H1 H2 H3
    go_wp2
    go_ret
    exact ⟨rfl, HB.out⟩
  | true =>
    go_enter Try.func17, Try.ntmps17
    go_wp2_with fail
    refine Calls.mono (H1.out _) ?_
    rintro e w1 ⟨rfl, rfl⟩
    clear H1
    go_wp2_with fail
    refine Calls.mono (H2.out _) ?_
    rintro e w1 ⟨rfl, rfl⟩
    clear H2
    cases r2 with
    | false =>
      clear H3
      go_wp2
      go_ret
      exact ⟨rfl, HB.out⟩
    | true =>
      go_wp2_with fail
      refine Calls.mono (H3.out _) ?_
      rintro e w1 ⟨rfl, rfl⟩
      clear H3
      go_wp2
      go_ret
      exact ⟨by simp, HB.out⟩

/-- What a kind has, in memory. -/
def KAt (w : World) (g : Nat) (ka kb kc il im rl rm nl nm : Int) (p : Bool) : Prop := w.heap[g]? = some (.cells #[.int .i64 ka, .int .i64 kb, .int .i64 kc, .int .i64 il, .int .i64 im, .int .i64 rl, .int .i64 rm, .int .i64 nl, .int .i64 nm, .bool p] 39 (0, 0))
theorem KAt.lt {w : World} {g : Nat} {ka kb kc il im rl rm nl nm : Int} {p : Bool} (h : KAt w g ka kb kc il im rl rm nl nm p) : g < w.heap.size := (Array.getElem?_eq_some_iff.1 h).1
theorem KAt.below {w w' : World} {g : Nat} {ka kb kc il im rl rm nl nm : Int} {p : Bool} (h : KAt w g ka kb kc il im rl rm nl nm p) (hb : Below w.heap.size w w') : KAt w' g ka kb kc il im rl rm nl nm p := (hb.block g h.lt).trans h

set_option maxRecDepth 100000 in
set_option maxHeartbeats 6400000 in
theorem x12hl_any (ka kb kc il im rl rm nl nm : Int) (p : Bool) (k a b c : Int) (pi : Option Addr) (li ci : Nat) (pr : Option Addr) (lr cr : Nat) (pn : Option Addr) (ln cn : Nat) (w : World) :
    Calls Try.prog 18 #[.agg #[.int .i64 ka, .int .i64 kb, .int .i64 kc, .int .i64 il, .int .i64 im, .int .i64 rl, .int .i64 rm, .int .i64 nl, .int .i64 nm, .bool p], .agg #[.int .i64 k, .int .i64 a, .int .i64 b, .int .i64 c, .slice pi li ci, .slice pr lr cr, .slice pn ln cn]] w fun e w' => e = .returned (.bool (!(p && (li != ln)) && (inB il im li && inB rl rm lr && inB nl nm ln))) ∧ Below w.heap.size w w' := by
  obtain ⟨r1, h1⟩ : ∃ r1, r1 = inB il im li := ⟨_, rfl⟩
  obtain ⟨r2, h2⟩ : ∃ r1, r1 = inB rl rm lr := ⟨_, rfl⟩
  obtain ⟨r3, h3⟩ : ∃ r1, r1 = inB nl nm ln := ⟨_, rfl⟩
  have H1 : Hid (∀ w : World, Calls Try.prog 43 #[.agg #[.int .i64 il, .int .i64 im], .int .i64 (li : Int)] w fun e w' => e = .returned (.bool r1) ∧ Below w.heap.size w w') := by rw [h1]; exact x12holds_any il im li
  have H2 : Hid (∀ w : World, Calls Try.prog 43 #[.agg #[.int .i64 rl, .int .i64 rm], .int .i64 (lr : Int)] w fun e w' => e = .returned (.bool r2) ∧ Below w.heap.size w w') := by rw [h2]; exact x12holds_any rl rm lr
  have H3 : Hid (∀ w : World, Calls Try.prog 43 #[.agg #[.int .i64 nl, .int .i64 nm], .int .i64 (ln : Int)] w fun e w' => e = .returned (.bool r3) ∧ Below w.heap.size w w') := by rw [h3]; exact x12holds_any nl nm ln
  rw [← h1, ← h2, ← h3]
  have B1 := balloc w (.cells #[.int .i64 ka, .int .i64 kb, .int .i64 kc, .int .i64 il, .int .i64 im, .int .i64 rl, .int .i64 rm, .int .i64 nl, .int .i64 nm, .bool p] 39)
  have K1 : KAt (w.alloc (.cells #[.int .i64 ka, .int .i64 kb, .int .i64 kc, .int .i64 il, .int .i64 im, .int .i64 rl, .int .i64 rm, .int .i64 nl, .int .i64 nm, .bool p] 39)) w.heap.size ka kb kc il im rl rm nl nm p := heap_alloc_new _ _
  have B2 := balloc (w.alloc (.cells #[.int .i64 ka, .int .i64 kb, .int .i64 kc, .int .i64 il, .int .i64 im, .int .i64 rl, .int .i64 rm, .int .i64 nl, .int .i64 nm, .bool p] 39)) (.cells #[.int .i64 k, .int .i64 a, .int .i64 b, .int .i64 c, .slice pi li ci, .slice pr lr cr, .slice pn ln cn] 25)
  have M1 := MsgAt.new (w.alloc (.cells #[.int .i64 ka, .int .i64 kb, .int .i64 kc, .int .i64 il, .int .i64 im, .int .i64 rl, .int .i64 rm, .int .i64 nl, .int .i64 nm, .bool p] 39)) k a b c pi pr pn li ci lr cr ln cn
  rw [World.size_alloc] at M1
  replace K1 := K1.below B2
  have HB := bthen B1 B2
  obtain ⟨V, hV⟩ : ∃ V, V = (w.alloc (.cells #[.int .i64 ka, .int .i64 kb, .int .i64 kc, .int .i64 il, .int .i64 im, .int .i64 rl, .int .i64 rm, .int .i64 nl, .int .i64 nm, .bool p] 39)).alloc (.cells #[.int .i64 k, .int .i64 a, .int .i64 b, .int .i64 c, .slice pi li ci, .slice pr lr cr, .slice pn ln cn] 25) := ⟨_, rfl⟩
  rw [← hV] at K1 M1 HB
  have HV : Hid (V = (w.alloc (.cells #[.int .i64 ka, .int .i64 kb, .int .i64 kc, .int .i64 il, .int .i64 im, .int .i64 rl, .int .i64 rm, .int .i64 nl, .int .i64 nm, .bool p] 39)).alloc (.cells #[.int .i64 k, .int .i64 a, .int .i64 b, .int .i64 c, .slice pi li ci, .slice pr lr cr, .slice pn ln cn] 25)) := hV
  clear B1 B2 h1 h2 h3 hV
  obtain ⟨⟨k0, k1, k2, k3, k4, k5, k6, k7, k8, k9⟩, -⟩ := cells10 K1
  obtain ⟨⟨c0, c1, c2, c3, c4, c5, c6⟩, -⟩ := M1.cells
  have hne1 : ((li : Int) != (ln : Int)) = (li != ln) := Bool.eq_iff_iff.2 (by simp only [bne_iff_ne, ne_eq]; omega)
  have hne2 : ((li : Int) == (ln : Int)) = !(li != ln) := by rw [← hne1]; simp [bne]
  obtain ⟨q, hq⟩ : ∃ q, q = (li != ln) := ⟨_, rfl⟩
  rw [← hq] at hne1 hne2
  rw [← hq]
  clear hq
  cases p with
  | false =>
    go_enter Try.func18, Try.ntmps18
    go_upto_region 1 with fail
    rw [← HV.out]
    obtain ⟨G, hG⟩ : ∃ G, G = w.heap.size := ⟨_, rfl⟩
    rw [← hG] at K1 M1 k0 k1 k2 k3 k4 k5 k6 k7 k8 k9 c0 c1 c2 c3 c4 c5 c6
    rw [← hG]
    have HG : Hid (G = w.heap.size) := hG
    clear hG HV
    go_wp2_with fail
    refine Calls.mono (H1.out _) ?_
    rintro e w1 ⟨rfl, hb1⟩
    have hB1 := bthen HB hb1
    replace K1 := K1.below hb1
    replace M1 := M1.kept (hb1.block _ M1.lt)
    clear k0 k1 k2 k3 k4 k5 k6 k7 k8 k9 c0 c1 c2 c3 c4 c5 c6
    obtain ⟨⟨k0, k1, k2, k3, k4, k5, k6, k7, k8, k9⟩, -⟩ := cells10 K1
    obtain ⟨⟨c0, c1, c2, c3, c4, c5, c6⟩, -⟩ := M1.cells
    clear HB hb1
    clear H1
    cases r1 with
    | false =>
      clear H2 H3
      go_wp2
      go_ret
      exact ⟨by simp, hB1⟩
    | true =>
      go_wp2_with fail
      refine Calls.mono (H2.out _) ?_
      rintro e w2 ⟨rfl, hb1⟩
      have hB2 := bthen hB1 hb1
      replace K1 := K1.below hb1
      replace M1 := M1.kept (hb1.block _ M1.lt)
      clear k0 k1 k2 k3 k4 k5 k6 k7 k8 k9 c0 c1 c2 c3 c4 c5 c6
      obtain ⟨⟨k0, k1, k2, k3, k4, k5, k6, k7, k8, k9⟩, -⟩ := cells10 K1
      obtain ⟨⟨c0, c1, c2, c3, c4, c5, c6⟩, -⟩ := M1.cells
      clear hB1 hb1
      clear H2
      cases r2 with
      | false =>
        clear H3
        go_wp2
        go_ret
        exact ⟨by simp, hB2⟩
      | true =>
        go_wp2_with fail
        refine Calls.mono (H3.out _) ?_
        rintro e w3 ⟨rfl, hb3⟩
        have hB3 := bthen hB2 hb3
        clear H3 k0 k1 k2 k3 k4 k5 k6 k7 k8 k9 c0 c1 c2 c3 c4 c5 c6 K1 M1 hB2 hb3
        go_wp2
        go_ret
        exact ⟨by simp, hB3⟩
  | true =>
    cases q with
    | false =>
      go_enter Try.func18, Try.ntmps18
      go_upto_region 1 with fail
      rw [← HV.out]
      obtain ⟨G, hG⟩ : ∃ G, G = w.heap.size := ⟨_, rfl⟩
      rw [← hG] at K1 M1 k0 k1 k2 k3 k4 k5 k6 k7 k8 k9 c0 c1 c2 c3 c4 c5 c6
      rw [← hG]
      have HG : Hid (G = w.heap.size) := hG
      clear hG HV
      go_wp2_with fail
      refine Calls.mono (H1.out _) ?_
      rintro e w1 ⟨rfl, hb1⟩
      have hB1 := bthen HB hb1
      replace K1 := K1.below hb1
      replace M1 := M1.kept (hb1.block _ M1.lt)
      clear k0 k1 k2 k3 k4 k5 k6 k7 k8 k9 c0 c1 c2 c3 c4 c5 c6
      obtain ⟨⟨k0, k1, k2, k3, k4, k5, k6, k7, k8, k9⟩, -⟩ := cells10 K1
      obtain ⟨⟨c0, c1, c2, c3, c4, c5, c6⟩, -⟩ := M1.cells
      clear HB hb1
      clear H1
      cases r1 with
      | false =>
        clear H2 H3
        go_wp2
        go_ret
        exact ⟨by simp, hB1⟩
      | true =>
        go_wp2_with fail
        refine Calls.mono (H2.out _) ?_
        rintro e w2 ⟨rfl, hb1⟩
        have hB2 := bthen hB1 hb1
        replace K1 := K1.below hb1
        replace M1 := M1.kept (hb1.block _ M1.lt)
        clear k0 k1 k2 k3 k4 k5 k6 k7 k8 k9 c0 c1 c2 c3 c4 c5 c6
        obtain ⟨⟨k0, k1, k2, k3, k4, k5, k6, k7, k8, k9⟩, -⟩ := cells10 K1
        obtain ⟨⟨c0, c1, c2, c3, c4, c5, c6⟩, -⟩ := M1.cells
        clear hB1 hb1
        clear H2
        cases r2 with
        | false =>
          clear H3
          go_wp2
          go_ret
          exact ⟨by simp, hB2⟩
        | true =>
          go_wp2_with fail
          refine Calls.mono (H3.out _) ?_
          rintro e w3 ⟨rfl, hb3⟩
          have hB3 := bthen hB2 hb3
          clear H3 k0 k1 k2 k3 k4 k5 k6 k7 k8 k9 c0 c1 c2 c3 c4 c5 c6 K1 M1 hB2 hb3
          go_wp2
          go_ret
          exact ⟨by simp, hB3⟩
    | true =>
      go_enter Try.func18, Try.ntmps18
      go_upto_region 1 with fail
      rw [← HV.out]
      obtain ⟨G, hG⟩ : ∃ G, G = w.heap.size := ⟨_, rfl⟩
      rw [← hG] at K1 M1 k0 k1 k2 k3 k4 k5 k6 k7 k8 k9 c0 c1 c2 c3 c4 c5 c6
      rw [← hG]
      have HG : Hid (G = w.heap.size) := hG
      clear hG HV
      clear H1 H2 H3
      go_wp2
      go_ret
      exact ⟨rfl, HB⟩
end Go.Proofs.Ytnbdbahfekneoaa

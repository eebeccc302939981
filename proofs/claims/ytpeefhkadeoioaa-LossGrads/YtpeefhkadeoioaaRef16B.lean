/-
  The document's sums and derivatives: RightSum, Grad. Written by mk/r16a.py.
-/
import Derived.Test.YtpeefhkadeoioaaRef16A
namespace Go.Proofs.Ytpeefhkadeoioaa
open Go.RowKit

set_option maxRecDepth 20000 in
set_option maxHeartbeats 3200000 in
theorem r16sum_any (G H : Int) (w : World) : Calls Try.prog 25 #[.agg #[.int .i64 G, .int .i64 H]] w fun e w' => ∃ b, e = .returned (.bool b) ∧ (b = true ↔ SumOk G H) ∧ Below w.heap.size w w' := by
  have HB := (show Hid _ from balloc w (.cells #[.int .i64 G, .int .i64 H] 31))
  by_cases h0 : -1099511627776 ≤ G
  case neg =>
    have d0 : decide (-1099511627776 ≤ G) = false := decide_eq_false h0
    have HX : Hid (¬ SumOk G H) := fun e => h0 e.1
    clear h0
    go_enter Try.func25, Try.ntmps25
    go_wp2
    go_ret
    exact ⟨false, rfl, ⟨fun e => (by cases e), fun e => absurd e HX.out⟩, HB.out⟩
  have d0 : decide (-1099511627776 ≤ G) = true := decide_eq_true h0
  by_cases h1 : G ≤ 1099511627776
  case neg =>
    have d1 : decide (G ≤ 1099511627776) = false := decide_eq_false h1
    have HX : Hid (¬ SumOk G H) := fun e => h1 e.2.1
    clear h0 h1
    go_enter Try.func25, Try.ntmps25
    go_wp2
    go_ret
    exact ⟨false, rfl, ⟨fun e => (by cases e), fun e => absurd e HX.out⟩, HB.out⟩
  have d1 : decide (G ≤ 1099511627776) = true := decide_eq_true h1
  by_cases h2 : 0 ≤ H
  case neg =>
    have d2 : decide (0 ≤ H) = false := decide_eq_false h2
    have HX : Hid (¬ SumOk G H) := fun e => h2 e.2.2.1
    clear h0 h1 h2
    go_enter Try.func25, Try.ntmps25
    go_wp2
    go_ret
    exact ⟨false, rfl, ⟨fun e => (by cases e), fun e => absurd e HX.out⟩, HB.out⟩
  have d2 : decide (0 ≤ H) = true := decide_eq_true h2
  by_cases h3 : H ≤ 1048576
  case neg =>
    have d3 : decide (H ≤ 1048576) = false := decide_eq_false h3
    have HX : Hid (¬ SumOk G H) := fun e => h3 e.2.2.2
    clear h0 h1 h2 h3
    go_enter Try.func25, Try.ntmps25
    go_wp2
    go_ret
    exact ⟨false, rfl, ⟨fun e => (by cases e), fun e => absurd e HX.out⟩, HB.out⟩
  have d3 : decide (H ≤ 1048576) = true := decide_eq_true h3
  have HX : Hid (SumOk G H) := ⟨h0, h1, h2, h3⟩
  clear h0 h1 h2 h3
  go_enter Try.func25, Try.ntmps25
  go_wp2
  go_ret
  exact ⟨true, rfl, ⟨fun _ => HX.out, fun _ => rfl⟩, HB.out⟩
def GradT16 (c : Cfg) (s l : Int) (w : World) (e : Ending) (w' : World) : Prop := ∃ g err, e = .returned (.tuple #[.int .i64 g, .int .i64 err]) ∧ ResGrad c s l g err ∧ Below w.heap.size w w'
set_option maxRecDepth 20000 in
set_option maxHeartbeats 3200000 in
theorem r16grad_any (c : Cfg) (s l : Int) (w : World) : Calls Try.prog 12 #[.agg #[.int .i64 c.T, .int .i64 c.D, .int .i64 c.L, .int .i64 c.G, .int .i64 c.N, .int .i64 c.E, .int .i64 c.S, .int .i64 c.C], .int .i64 s, .int .i64 l] w fun e w' => GradT16 c s l w e w' := by
  have hb := balloc w (.cells #[.int .i64 c.T, .int .i64 c.D, .int .i64 c.L, .int .i64 c.G, .int .i64 c.N, .int .i64 c.E, .int .i64 c.S, .int .i64 c.C] 23)
  obtain ⟨V, hVe⟩ : ∃ V, V = w.alloc (.cells #[.int .i64 c.T, .int .i64 c.D, .int .i64 c.L, .int .i64 c.G, .int .i64 c.N, .int .i64 c.E, .int .i64 c.S, .int .i64 c.C] 23) := ⟨_, rfl⟩
  have HVe : Hid (V = w.alloc (.cells #[.int .i64 c.T, .int .i64 c.D, .int .i64 c.L, .int .i64 c.G, .int .i64 c.N, .int .i64 c.E, .int .i64 c.S, .int .i64 c.C] 23)) := hVe
  obtain ⟨G, hG⟩ : ∃ G, G = w.heap.size := ⟨_, rfl⟩
  have HG : Hid (G = w.heap.size) := hG
  have hv : CVar V G c := by rw [hVe, hG]; exact CVar.new w c
  rw [← hVe] at hb
  have HC := (show Hid _ from r16right_any c V)
  have HB : Hid (Below w.heap.size w V ∧ CVar V G c) := ⟨hb, hv⟩
  obtain ⟨x0, x1, x2, x3, x4, x5, x6, x7⟩ := hv.cell
  clear hb hVe hG hv
  go_enter Try.func12, Try.ntmps12
  go_upto_region 1 with fail
  rw [← HVe.out, ← HG.out]
  clear HVe HG
  go_wp2_with fail
  refine Calls.mono HC.out ?_
  rintro e w1 ⟨z, rfl, hz, hb1⟩
  have hv1 := HB.out.2.below hb1
  have HT : Hid (Below w.heap.size w w1) := bthen HB.out.1 hb1
  clear x0 x1 x2 x3 x4 x5 x6 x7 HC HB hb1
  obtain ⟨-, -, -, -, -, -, x6, x7⟩ := hv1.cell
  clear hv1
  have bad : ¬ GradArg c s l → GradT16 c s l w (.returned (.tuple #[.int .i64 0, .int .i64 1])) w1 := fun h => ⟨0, 1, rfl, .inl ⟨h, rfl, rfl⟩, HT.out⟩
  dsimp only
  cases z with
  | false =>
    have HX : Hid _ := bad (fun e => by have := hz.2 e.1; cases this)
    clear hz bad
    go_wp2
    go_ret2
    exact HX.out
  | true =>
  have hok := hz.1 rfl
  by_cases h0 : s < -1099511627776
  · have d0 : decide (s < -1099511627776) = true := decide_eq_true h0
    have HX : Hid _ := bad (fun e => by have := e.2.1; omega)
    clear hz bad hok h0
    go_wp2
    go_ret2
    exact HX.out
  have d0 : decide (s < -1099511627776) = false := decide_eq_false h0
  by_cases h1 : 1099511627776 < s
  · have d1 : decide (1099511627776 < s) = true := decide_eq_true h1
    have HX : Hid _ := bad (fun e => by have := e.2.2.1; omega)
    clear hz bad hok h0 h1
    go_wp2
    go_ret2
    exact HX.out
  have d1 : decide (1099511627776 < s) = false := decide_eq_false h1
  by_cases h2 : l < -1048576
  · have d2 : decide (l < -1048576) = true := decide_eq_true h2
    have HX : Hid _ := bad (fun e => by have := e.2.2.2.1; omega)
    clear hz bad hok h0 h1 h2
    go_wp2
    go_ret2
    exact HX.out
  have d2 : decide (l < -1048576) = false := decide_eq_false h2
  by_cases h3 : 1048576 < l
  · have d3 : decide (1048576 < l) = true := decide_eq_true h3
    have HX : Hid _ := bad (fun e => by have := e.2.2.2.2; omega)
    clear hz bad hok h0 h1 h2 h3
    go_wp2
    go_ret2
    exact HX.out
  have d3 : decide (1048576 < l) = false := decide_eq_false h3
  have hcap := capG_pos hok
  have HA : Hid (GradArg c s l) := ⟨hok, by omega, by omega, by omega, by omega⟩
  have hsl : -1100585369600 ≤ s - l ∧ s - l ≤ 1100585369600 := by omega
  by_cases h4 : c.S = 1
  · have d4 : (c.S == 1) = true := by simp [h4]
    have ec : capG c = c.C := by unfold capG; rw [if_pos h4]
    rw [ec] at hcap
    have HX : Hid (∀ x, x = max (-c.C) (min c.C (s - l)) → GradT16 c s l w (.returned (.tuple #[.int .i64 x, .int .i64 0])) w1) := fun x e => ⟨x, 0, rfl, .inr ⟨HA.out, by unfold gradV; rw [ec, e], rfl⟩, HT.out⟩
    have hw1 : RowKit.wrap64 (-c.C) = -c.C := by unfold RowKit.wrap64; omega
    clear hz bad hok h0 h1 h2 h3 h4 ec
    go_wp2
    go_ret2
    exact HX.out _ rfl
  · have d4 : (c.S == 1) = false := by simp [h4]
    have ec : capG c = 1048576 := by unfold capG; rw [if_neg h4]
    have HX : Hid (∀ x, x = max (-1048576) (min 1048576 (s - l)) → GradT16 c s l w (.returned (.tuple #[.int .i64 x, .int .i64 0])) w1) := fun x e => ⟨x, 0, rfl, .inr ⟨HA.out, by unfold gradV; rw [ec, e], rfl⟩, HT.out⟩
    clear hz bad hok h0 h1 h2 h3 h4 ec hcap
    go_wp2
    go_ret2
    exact HX.out _ rfl
end Go.Proofs.Ytpeefhkadeoioaa

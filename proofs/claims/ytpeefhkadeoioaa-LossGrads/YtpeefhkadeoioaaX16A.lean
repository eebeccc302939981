/-
  The program's configurations: isFrom, isWithin, greatest, Right. Written by mk/x16.py.
-/
import Derived.Test.YtpeefhkadeoioaaRef16C
import Derived.BigQuiet
namespace Go.Proofs.Ytpeefhkadeoioaa
open Go.RowKit

def inB16 (l m n : Int) : Bool := decide (l ≤ n ∧ n ≤ m)
theorem inB16_iff {l m n : Int} : inB16 l m n = true ↔ l ≤ n ∧ n ≤ m := by unfold inB16; simp
set_option maxRecDepth 20000 in
set_option maxHeartbeats 3200000 in
theorem x16from_any (n l m : Int) (w : World) : Calls Try.prog 17 #[.int .i64 n, .int .i64 l, .int .i64 m] w fun e w' => e = .returned (.bool (inB16 l m n)) ∧ w = w' := by
  by_cases h0 : l ≤ n
  · by_cases h1 : n ≤ m
    · have HE : Hid (true = inB16 l m n) := (decide_eq_true ⟨h0, h1⟩).symm
      have h1d : decide (n ≤ m) = true := decide_eq_true h1
      have h0d : decide (l ≤ n) = true := decide_eq_true h0
      go_enter Try.func17, Try.ntmps17
      go_wp2
      go_ret
      exact ⟨ret_bool HE.out, rfl⟩
    · have HE : Hid (false = inB16 l m n) := (decide_eq_false (fun e => h1 e.2)).symm
      have h1d : decide (n ≤ m) = false := decide_eq_false h1
      have h0d : decide (l ≤ n) = true := decide_eq_true h0
      clear h1
      go_enter Try.func17, Try.ntmps17
      go_wp2
      go_ret
      exact ⟨ret_bool HE.out, rfl⟩
  · have HE : Hid (false = inB16 l m n) := (decide_eq_false (fun e => h0 e.1)).symm
    have h0d : decide (l ≤ n) = false := decide_eq_false h0
    clear h0
    go_enter Try.func17, Try.ntmps17
    go_wp2
    go_ret
    exact ⟨ret_bool HE.out, rfl⟩
set_option maxRecDepth 20000 in
set_option maxHeartbeats 3200000 in
theorem x16within_any (n m : Int) (w : World) (hm : 0 ≤ m ∧ m ≤ 1099511627776) : Calls Try.prog 18 #[.int .i64 n, .int .i64 m] w fun e w' => e = .returned (.bool (inB16 (-m) m n)) ∧ w = w' := by
  have HC := (show Hid _ from x16from_any n (-m) m w)
  obtain ⟨r, hr⟩ : ∃ r, r = inB16 (-m) m n := ⟨_, rfl⟩
  rw [← hr] at HC ⊢
  have hw : RowKit.wrap64 (-m) = -m := by unfold RowKit.wrap64; omega
  clear hr hm
  go_enter Try.func18, Try.ntmps18
  go_wp2_with fail
  refine Calls.mono HC.out ?_
  rintro e w1 ⟨rfl, rfl⟩
  clear HC
  go_wp2
  go_ret
  exact ⟨rfl, rfl⟩
/-- A configuration's loss may be. -/
def LossOk (c : Cfg) : Prop := (c.S = 0 ∧ c.C = 0) ∨ (c.S = 1 ∧ 1 ≤ c.C ∧ c.C ≤ 1048576)
def GreatT16 (c : Cfg) (w : World) (e : Ending) (w' : World) : Prop := ∃ g b, e = .returned (.tuple #[.int .i64 g, .bool b]) ∧ (b = true ↔ LossOk c) ∧ (b = true → g = capG c) ∧ Below w.heap.size w w'
set_option maxRecDepth 20000 in
set_option maxHeartbeats 3200000 in
theorem x16great_any (c : Cfg) (w : World) : Calls Try.prog 16 #[.agg #[.int .i64 c.T, .int .i64 c.D, .int .i64 c.L, .int .i64 c.G, .int .i64 c.N, .int .i64 c.E, .int .i64 c.S, .int .i64 c.C]] w fun e w' => GreatT16 c w e w' := by
  have hb := balloc w (.cells #[.int .i64 c.T, .int .i64 c.D, .int .i64 c.L, .int .i64 c.G, .int .i64 c.N, .int .i64 c.E, .int .i64 c.S, .int .i64 c.C] 23)
  obtain ⟨V, hVe⟩ : ∃ V, V = w.alloc (.cells #[.int .i64 c.T, .int .i64 c.D, .int .i64 c.L, .int .i64 c.G, .int .i64 c.N, .int .i64 c.E, .int .i64 c.S, .int .i64 c.C] 23) := ⟨_, rfl⟩
  have HVe : Hid (V = w.alloc (.cells #[.int .i64 c.T, .int .i64 c.D, .int .i64 c.L, .int .i64 c.G, .int .i64 c.N, .int .i64 c.E, .int .i64 c.S, .int .i64 c.C] 23)) := hVe
  obtain ⟨g0, hG⟩ : ∃ g0, g0 = w.heap.size := ⟨_, rfl⟩
  have HG : Hid (g0 = w.heap.size) := hG
  have hv : CVar V g0 c := by rw [hVe, hG]; exact CVar.new w c
  rw [← hVe] at hb
  have HB : Hid (Below w.heap.size w V) := hb
  obtain ⟨-, -, -, -, -, -, x6, x7⟩ := hv.cell
  clear hb hVe hG hv
  by_cases h0 : c.S = 0
  · have d0 : (c.S == 0) = true := by simp [h0]
    have ec : capG c = 1048576 := by unfold capG; rw [if_neg (by omega)]
    obtain ⟨q, hq⟩ : ∃ q, (c.C == 0) = q := ⟨_, rfl⟩
    have HE : Hid ((q = true ↔ LossOk c) ∧ (q = true → 1048576 = capG c)) := by
      refine ⟨⟨fun e => .inl ⟨h0, by rw [← hq] at e; simpa using e⟩, fun e => ?_⟩, fun _ => ec.symm⟩
      rcases e with ⟨-, e⟩ | ⟨e, -⟩
      · rw [← hq, e]; rfl
      · omega
    clear ec h0
    go_enter Try.func16, Try.ntmps16
    go_upto_region 1 with fail
    rw [← HVe.out, ← HG.out]
    clear HVe HG
    go_wp2_with fail
    go_quiet (fail)
    go_wp2
    go_ret2
    exact ⟨_, _, rfl, HE.out.1, HE.out.2, below_drewN HB.out _⟩
  · have d0 : (c.S == 0) = false := by simp [h0]
    by_cases h1 : c.S = 1
    · have d1 : (c.S == 1) = true := by simp [h1]
      have ec : capG c = c.C := by unfold capG; rw [if_pos h1]
      have HC := (show Hid _ from fun wx => x16from_any c.C 1 1048576 wx)
      obtain ⟨q, hq⟩ : ∃ q, q = inB16 1 1048576 c.C := ⟨_, rfl⟩
      have HE : Hid ((q = true ↔ LossOk c) ∧ (q = true → c.C = capG c)) := by
        refine ⟨⟨fun e => .inr ⟨h1, by rw [hq] at e; exact inB16_iff.1 e⟩, fun e => ?_⟩, fun _ => ec.symm⟩
        rcases e with ⟨e, -⟩ | ⟨-, e⟩
        · omega
        · rw [hq]; exact inB16_iff.2 e
      rw [← hq] at HC
      clear ec h0 h1 hq
      go_enter Try.func16, Try.ntmps16
      go_upto_region 1 with fail
      rw [← HVe.out, ← HG.out]
      clear HVe HG
      go_wp2_with fail
      go_quiet ((go_at_call 17; exact Calls.quiet_of_same ((HC.out _).mono (fun _ _ h => ⟨h.1, h.2.symm⟩))))
      go_wp2
      go_ret2
      exact ⟨_, _, rfl, HE.out.1, HE.out.2, below_drewN HB.out _⟩
    · have d1 : (c.S == 1) = false := by simp [h1]
      have HE : Hid (¬ LossOk c) := fun e => by rcases e with ⟨e, -⟩ | ⟨e, -⟩ <;> omega
      clear h0 h1
      go_enter Try.func16, Try.ntmps16
      go_upto_region 1 with fail
      rw [← HVe.out, ← HG.out]
      clear HVe HG
      go_wp2_with fail
      go_ret2
      exact ⟨_, _, rfl, ⟨fun e => (by cases e), fun e => absurd e HE.out⟩, fun e => (by cases e), HB.out⟩
set_option maxRecDepth 20000 in
set_option maxHeartbeats 3200000 in
theorem x16right_any (c : Cfg) (w : World) : Calls Try.prog 9 #[.agg #[.int .i64 c.T, .int .i64 c.D, .int .i64 c.L, .int .i64 c.G, .int .i64 c.N, .int .i64 c.E, .int .i64 c.S, .int .i64 c.C]] w fun e w' => RgtT16 c w e w' := by
  have hb := balloc w (.cells #[.int .i64 c.T, .int .i64 c.D, .int .i64 c.L, .int .i64 c.G, .int .i64 c.N, .int .i64 c.E, .int .i64 c.S, .int .i64 c.C] 23)
  obtain ⟨V, hVe⟩ : ∃ V, V = w.alloc (.cells #[.int .i64 c.T, .int .i64 c.D, .int .i64 c.L, .int .i64 c.G, .int .i64 c.N, .int .i64 c.E, .int .i64 c.S, .int .i64 c.C] 23) := ⟨_, rfl⟩
  have HVe : Hid (V = w.alloc (.cells #[.int .i64 c.T, .int .i64 c.D, .int .i64 c.L, .int .i64 c.G, .int .i64 c.N, .int .i64 c.E, .int .i64 c.S, .int .i64 c.C] 23)) := hVe
  obtain ⟨g0, hG⟩ : ∃ g0, g0 = w.heap.size := ⟨_, rfl⟩
  have HG : Hid (g0 = w.heap.size) := hG
  have hv : CVar V g0 c := by rw [hVe, hG]; exact CVar.new w c
  rw [← hVe] at hb
  have HC := (show Hid _ from x16great_any c V)
  have HB : Hid (Below w.heap.size w V ∧ CVar V g0 c) := ⟨hb, hv⟩
  obtain ⟨x0, x1, x2, x3, x4, x5, x6, x7⟩ := hv.cell
  clear hb hVe hG hv
  obtain ⟨q0, hq0⟩ : ∃ q, q = inB16 1 16 c.T := ⟨_, rfl⟩
  have HK0 : Hid (∀ wx : World, Calls Try.prog 17 #[.int .i64 c.T, .int .i64 1, .int .i64 16] wx fun e w' => e = .returned (.bool q0) ∧ wx = w') := fun wx => by rw [hq0]; exact x16from_any c.T 1 16 wx
  have HQ0 : Hid (q0 = true ↔ 1 ≤ c.T ∧ c.T ≤ 16) := by show _ ↔ _; rw [hq0]; exact inB16_iff
  clear hq0
  obtain ⟨q1, hq1⟩ : ∃ q, q = inB16 1 5 c.D := ⟨_, rfl⟩
  have HK1 : Hid (∀ wx : World, Calls Try.prog 17 #[.int .i64 c.D, .int .i64 1, .int .i64 5] wx fun e w' => e = .returned (.bool q1) ∧ wx = w') := fun wx => by rw [hq1]; exact x16from_any c.D 1 5 wx
  have HQ1 : Hid (q1 = true ↔ 1 ≤ c.D ∧ c.D ≤ 5) := by show _ ↔ _; rw [hq1]; exact inB16_iff
  clear hq1
  obtain ⟨q2, hq2⟩ : ∃ q, q = inB16 1 1048576 c.L := ⟨_, rfl⟩
  have HK2 : Hid (∀ wx : World, Calls Try.prog 17 #[.int .i64 c.L, .int .i64 1, .int .i64 1048576] wx fun e w' => e = .returned (.bool q2) ∧ wx = w') := fun wx => by rw [hq2]; exact x16from_any c.L 1 1048576 wx
  have HQ2 : Hid (q2 = true ↔ 1 ≤ c.L ∧ c.L ≤ 1048576) := by show _ ↔ _; rw [hq2]; exact inB16_iff
  clear hq2
  obtain ⟨q3, hq3⟩ : ∃ q, q = inB16 0 1048576 c.G := ⟨_, rfl⟩
  have HK3 : Hid (∀ wx : World, Calls Try.prog 17 #[.int .i64 c.G, .int .i64 0, .int .i64 1048576] wx fun e w' => e = .returned (.bool q3) ∧ wx = w') := fun wx => by rw [hq3]; exact x16from_any c.G 0 1048576 wx
  have HQ3 : Hid (q3 = true ↔ 0 ≤ c.G ∧ c.G ≤ 1048576) := by show _ ↔ _; rw [hq3]; exact inB16_iff
  clear hq3
  obtain ⟨q4, hq4⟩ : ∃ q, q = inB16 1 1048576 c.E := ⟨_, rfl⟩
  have HK4 : Hid (∀ wx : World, Calls Try.prog 17 #[.int .i64 c.E, .int .i64 1, .int .i64 1048576] wx fun e w' => e = .returned (.bool q4) ∧ wx = w') := fun wx => by rw [hq4]; exact x16from_any c.E 1 1048576 wx
  have HQ4 : Hid (q4 = true ↔ 1 ≤ c.E ∧ c.E ≤ 1048576) := by show _ ↔ _; rw [hq4]; exact inB16_iff
  clear hq4
  obtain ⟨q5, hq5⟩ : ∃ q, q = inB16 1 c.E c.N := ⟨_, rfl⟩
  have HK5 : Hid (∀ wx : World, Calls Try.prog 17 #[.int .i64 c.N, .int .i64 1, .int .i64 c.E] wx fun e w' => e = .returned (.bool q5) ∧ wx = w') := fun wx => by rw [hq5]; exact x16from_any c.N 1 c.E wx
  have HQ5 : Hid (q5 = true ↔ 1 ≤ c.N ∧ c.N ≤ c.E) := by show _ ↔ _; rw [hq5]; exact inB16_iff
  clear hq5
  go_enter Try.func9, Try.ntmps9
  go_upto_region 1 with fail
  rw [← HVe.out, ← HG.out]
  clear HVe HG
  go_wp2_with fail
  refine Calls.mono HC.out ?_
  rintro e w1 ⟨g, b, rfl, hz, -, hb1⟩
  have hv1 := HB.out.2.below hb1
  have HT : Hid (Below w.heap.size w w1) := bthen HB.out.1 hb1
  have HZ : Hid (b = true ↔ LossOk c) := hz
  clear x0 x1 x2 x3 x4 x5 x6 x7 HC HB hb1 hz
  obtain ⟨x0, x1, x2, x3, x4, x5, -, -⟩ := hv1.cell
  clear hv1
  dsimp only
  cases b with
  | false =>
    clear HK0 HK1 HK2 HK3 HK4 HK5
    go_wp2
    go_ret
    exact ⟨false, rfl, ⟨fun e => (by cases e), fun e => absurd (HZ.out.2 e.s) (by decide)⟩, HT.out⟩
  | true =>
  go_wp2_with fail
  refine Calls.mono (HK0.out _) ?_
  rintro e w2 ⟨rfl, rfl⟩
  dsimp only
  cases q0 with
  | false =>
    clear HK0 HK1 HK2 HK3 HK4 HK5
    go_wp2
    go_ret
    exact ⟨false, rfl, ⟨fun e => (by cases e), fun e => absurd (HQ0.out.2 e.t) (by decide)⟩, HT.out⟩
  | true =>
  go_wp2_with fail
  refine Calls.mono (HK1.out _) ?_
  rintro e w3 ⟨rfl, rfl⟩
  dsimp only
  cases q1 with
  | false =>
    clear HK0 HK1 HK2 HK3 HK4 HK5
    go_wp2
    go_ret
    exact ⟨false, rfl, ⟨fun e => (by cases e), fun e => absurd (HQ1.out.2 e.d) (by decide)⟩, HT.out⟩
  | true =>
  go_wp2_with fail
  refine Calls.mono (HK2.out _) ?_
  rintro e w4 ⟨rfl, rfl⟩
  dsimp only
  cases q2 with
  | false =>
    clear HK0 HK1 HK2 HK3 HK4 HK5
    go_wp2
    go_ret
    exact ⟨false, rfl, ⟨fun e => (by cases e), fun e => absurd (HQ2.out.2 e.l) (by decide)⟩, HT.out⟩
  | true =>
  go_wp2_with fail
  refine Calls.mono (HK3.out _) ?_
  rintro e w5 ⟨rfl, rfl⟩
  dsimp only
  cases q3 with
  | false =>
    clear HK0 HK1 HK2 HK3 HK4 HK5
    go_wp2
    go_ret
    exact ⟨false, rfl, ⟨fun e => (by cases e), fun e => absurd (HQ3.out.2 e.g) (by decide)⟩, HT.out⟩
  | true =>
  go_wp2_with fail
  refine Calls.mono (HK4.out _) ?_
  rintro e w6 ⟨rfl, rfl⟩
  dsimp only
  cases q4 with
  | false =>
    clear HK0 HK1 HK2 HK3 HK4 HK5
    go_wp2
    go_ret
    exact ⟨false, rfl, ⟨fun e => (by cases e), fun e => absurd (HQ4.out.2 e.e) (by decide)⟩, HT.out⟩
  | true =>
  go_wp2_with fail
  refine Calls.mono (HK5.out _) ?_
  rintro e w7 ⟨rfl, rfl⟩
  dsimp only
  cases q5 with
  | false =>
    clear HK0 HK1 HK2 HK3 HK4 HK5
    go_wp2
    go_ret
    exact ⟨false, rfl, ⟨fun e => (by cases e), fun e => absurd (HQ5.out.2 e.n) (by decide)⟩, HT.out⟩
  | true =>
  clear HK0 HK1 HK2 HK3 HK4 HK5
  go_wp2
  go_ret
  exact ⟨true, rfl, ⟨fun _ => ⟨HQ0.out.1 (by trivial), HQ1.out.1 (by trivial), HQ2.out.1 (by trivial), HQ3.out.1 (by trivial), HQ4.out.1 (by trivial), HQ5.out.1 (by trivial), HZ.out.1 (by trivial)⟩, fun _ => rfl⟩, HT.out⟩
end Go.Proofs.Ytpeefhkadeoioaa

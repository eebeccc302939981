/-
  Whether sums and splits may be: areSplits. Written by mk/x17.py.
-/
import Derived.Test.YtchmlfjjgehbkaaX17B
namespace Go.Proofs.Ytchmlfjjgehbkaa
open Go.RowKit

set_option maxRecDepth 20000 in
set_option maxHeartbeats 3200000 in
theorem x17are_any (A B : Int) (a : Option Addr) (n c : Nat) (ss : List (Int × Int)) (w : World) (h : SRows w a n c ss) : Calls Try.prog 25 #[.slice a n c, .agg #[.int .i64 A, .int .i64 B]] w fun e w' => ∃ b, e = .returned (.bool b) ∧ (b = true ↔ (∀ i, i < n → SumOk (ss.getD i (0, 0)).1 (ss.getD i (0, 0)).2 ∧ SumOk (A - (ss.getD i (0, 0)).1) (B - (ss.getD i (0, 0)).2)) ∧ SumOk A B) ∧ Below w.heap.size w w' := by
  have hm := h.hmax
  have hc := h.hcap
  unfold maxLen at hm
  have hb := balloc w (.cells #[.int .i64 A, .int .i64 B] 23)
  obtain ⟨V, hVe⟩ : ∃ V, V = w.alloc (.cells #[.int .i64 A, .int .i64 B] 23) := ⟨_, rfl⟩
  have HVe : Hid (V = w.alloc (.cells #[.int .i64 A, .int .i64 B] 23)) := hVe
  obtain ⟨g, hG⟩ : ∃ g, g = w.heap.size := ⟨_, rfl⟩
  have HG : Hid (g = w.heap.size) := hG
  have HG0 : Hid (g = w.heap.size) := hG
  have hv : SVar V g A B := by rw [hVe, hG]; exact heap_alloc_new w _
  rw [← hVe] at hb
  have HB : Hid (Below w.heap.size w V ∧ SVar V g A B ∧ SRows V a n c ss) := ⟨hb, hv, h.below hb⟩
  have HS : Hid (∀ (wx : World) (x y : Int), Calls Try.prog 21 #[.agg #[.int .i64 x, .int .i64 y], .agg #[.int .i64 A, .int .i64 B]] wx fun e w' => ∃ b, e = .returned (.bool b) ∧ (b = true ↔ SumOk x y ∧ SumOk A B ∧ SumOk (A - x) (B - y)) ∧ Below wx.heap.size wx w') := fun wx x y => x17split_any x y A B wx
  have HU : Hid (∀ wx : World, Calls Try.prog 13 #[.agg #[.int .i64 A, .int .i64 B]] wx fun e w' => ∃ b, e = .returned (.bool b) ∧ (b = true ↔ SumOk A B) ∧ Below wx.heap.size wx w') := fun wx => x17sum_any A B wx
  clear hb hVe hG hv h HG0
  go_enter Try.func25, Try.ntmps25
  go_upto_region 1 with fail
  rw [← HVe.out, ← HG.out]
  clear HVe HG
  go_wp2_with fail
  go_loopw [9] (fun v9 wr => ∃ k : Nat, v9 = .int .i64 (k : Int) ∧ k ≤ n ∧ Hid ((∀ i, i < k → SumOk (ss.getD i (0, 0)).1 (ss.getD i (0, 0)).2 ∧ SumOk (A - (ss.getD i (0, 0)).1) (B - (ss.getD i (0, 0)).2)) ∧ Below V.heap.size V wr)) (fun v9 _ => n - (intOf v9).toNat)
  case atStart => exact ⟨0, rfl, Nat.zero_le _, fun j hj => absurd hj (by omega), Below.refl _ _⟩
  case round =>
    obtain ⟨k, rfl, hk, HR⟩ := hrel
    have hgr := HB.out.2.1.below HR.out.2
    obtain ⟨y0, y1⟩ := hgr.cell
    by_cases hlt : k < n
    · have hlti : (k : Int) < (n : Int) := by omega
      have hk0 : (0 : Int) ≤ (k : Int) := by omega
      obtain ⟨b, off, x, y, rfl, z0, z1, hxy⟩ := (HB.out.2.2.below HR.out.2).at hlt
      have HXY : Hid (ss.getD k (0, 0) = (x, y)) := hxy
      have hba := balloc wr (.cells #[.int .i64 x, .int .i64 y] 23)
      replace y0 := bkeep hba y0 rfl
      replace y1 := bkeep hba y1 rfl
      have HW : Hid (Below V.heap.size V (wr.alloc (.cells #[.int .i64 x, .int .i64 y] 23))) := bthen HR.out.2 hba
      clear hxy hgr hba
      go_wp2_with fail
      refine Calls.mono (HS.out _ _ _) ?_
      rintro e w5 ⟨q, rfl, hq, hbq⟩
      dsimp only
      cases q with
      | false =>
        have hno : ¬ ((∀ i, i < n → SumOk (ss.getD i (0, 0)).1 (ss.getD i (0, 0)).2 ∧ SumOk (A - (ss.getD i (0, 0)).1) (B - (ss.getD i (0, 0)).2)) ∧ SumOk A B) := fun e => by
          have h2 := e.1 k hlt
          rw [HXY.out] at h2
          have := hq.2 ⟨h2.1, e.2, h2.2⟩
          cases this
        have HX : Hid (¬ ((∀ i, i < n → SumOk (ss.getD i (0, 0)).1 (ss.getD i (0, 0)).2 ∧ SumOk (A - (ss.getD i (0, 0)).1) (B - (ss.getD i (0, 0)).2)) ∧ SumOk A B) ∧ Below w.heap.size w w5) := ⟨hno, bthen HB.out.1 (bthen HW.out hbq)⟩
        clear hno
        clear hq hbq y0 y1 z0 z1
        go_wp2
        go_ret
        exact ⟨false, rfl, ⟨fun e => (by cases e), fun e => absurd e HX.out.1⟩, HX.out.2⟩
      | true =>
        have h3 := hq.1 rfl
        have hall : (∀ i, i < (k + 1) → SumOk (ss.getD i (0, 0)).1 (ss.getD i (0, 0)).2 ∧ SumOk (A - (ss.getD i (0, 0)).1) (B - (ss.getD i (0, 0)).2)) := fun j hj => by
          by_cases ej : j = k
          · rw [ej, HXY.out]; exact ⟨h3.1, h3.2.2⟩
          · exact HR.out.1 j (by omega)
        have HX : Hid ((∀ i, i < (k + 1) → SumOk (ss.getD i (0, 0)).1 (ss.getD i (0, 0)).2 ∧ SumOk (A - (ss.getD i (0, 0)).1) (B - (ss.getD i (0, 0)).2)) ∧ Below V.heap.size V w5) := ⟨hall, bthen HW.out hbq⟩
        clear hall
        clear hq hbq y0 y1 z0 z1 h3
        go_wp2
        go_roundw
        case rel => exact ⟨k + 1, by go_num, hlt, HX⟩
        case measure => simp [intOf]; omega
    · obtain rfl : k = n := by omega
      clear hgr hlt
      go_wp2_with fail
      refine Calls.mono (HU.out _) ?_
      rintro e w5 ⟨q, rfl, hq, hbq⟩
      have HX : Hid ((q = true ↔ (∀ i, i < k → SumOk (ss.getD i (0, 0)).1 (ss.getD i (0, 0)).2 ∧ SumOk (A - (ss.getD i (0, 0)).1) (B - (ss.getD i (0, 0)).2)) ∧ SumOk A B) ∧ Below w.heap.size w w5) := ⟨⟨fun e => ⟨HR.out.1, hq.1 e⟩, fun e => hq.2 e.2⟩, bthen HB.out.1 (bthen HR.out.2 hbq)⟩
      clear hq hbq y0 y1 HR
      dsimp only
      go_wp2
      go_ret
      exact ⟨q, rfl, HX.out.1, HX.out.2⟩
end Go.Proofs.Ytchmlfjjgehbkaa

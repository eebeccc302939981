/-
  The document's sets: contracts of Has, List, Count, Same.
-/
import Derived.Test.YtfgccldkbolkoaaRef14A
import Derived.BigQuiet
namespace Go.Proofs.Ytfgccldkbolkoaa
open Go.RowKit

/-- What a call that tells whether a number is in a set makes. -/
def HasT14 (N : Int) (ws : List Int) (i : Int) (w : World) (e : Ending) (w' : World) : Prop := ∃ b, e = .returned (.bool b) ∧ ResHas N ws i b ∧ Below w.heap.size w w'
set_option maxRecDepth 20000 in
set_option maxHeartbeats 3200000 in
theorem r14same_any (N M : Int) (a b : Option Addr) (la ca lb cb : Nat) (ws vs : List Int) (w : World) (hx : Nums w a la ca ws) (hy : Nums w b lb cb vs) :
    Calls Try.prog 8 #[.agg #[.int .i64 N, .slice a la ca], .agg #[.int .i64 M, .slice b lb cb]] w fun e w' => e = .returned (.bool (decide (N = M) && decide (ws = vs))) ∧ Below w.heap.size w w' := by
  have hV := bthen (balloc w (.cells #[.int .i64 N, .slice a la ca] 25)) (balloc (w.alloc (.cells #[.int .i64 N, .slice a la ca] 25)) (.cells #[.int .i64 M, .slice b lb cb] 25))
  obtain ⟨V, hVe⟩ : ∃ V, V = (w.alloc (.cells #[.int .i64 N, .slice a la ca] 25)).alloc (.cells #[.int .i64 M, .slice b lb cb] 25) := ⟨_, rfl⟩
  have HVe : Hid (V = (w.alloc (.cells #[.int .i64 N, .slice a la ca] 25)).alloc (.cells #[.int .i64 M, .slice b lb cb] 25)) := hVe
  obtain ⟨G, hG⟩ : ∃ G, G = w.heap.size := ⟨_, rfl⟩
  have HG : Hid (G = w.heap.size) := hG
  have x0 : V.cell? ⟨G, 0, none⟩ = some (.int .i64 N) := by rw [hVe, hG]; simp
  have x1 : V.cell? ⟨G, 1, none⟩ = some (.slice a la ca) := by rw [hVe, hG]; simp
  have y0 : V.cell? ⟨G + 1, 0, none⟩ = some (.int .i64 M) := by rw [hVe, hG]; simp
  have y1 : V.cell? ⟨G + 1, 1, none⟩ = some (.slice b lb cb) := by rw [hVe, hG]; simp
  rw [← hVe] at hV
  have HB : Hid (Below w.heap.size w V) := hV
  have m1 := hx.hcap
  have m2 := hx.hmax
  have m3 := hy.hcap
  have m4 := hy.hmax
  unfold maxLen at m2 m4
  have HL : Hid (ws.length = la ∧ vs.length = lb) := ⟨hx.hlen, hy.hlen⟩
  have HX : Hid (Nums V a la ca ws ∧ Nums V b lb cb vs) := ⟨hx.below hV, hy.below hV⟩
  obtain ⟨D, hD⟩ : ∃ D, D = (decide (N = M) && decide (ws = vs)) := ⟨_, rfl⟩
  have HD : Hid (D = (decide (N = M) && decide (ws = vs))) := hD
  rw [← hD]
  clear hx hy hV hVe hG hD
  go_enter Try.func8, Try.ntmps8
  go_upto_region 1 with fail
  rw [← HVe.out, ← HG.out]
  clear HVe HG
  by_cases h1 : N = M
  case neg =>
    have k1 : (N != M) = true := by simp [h1]
    have k2 : (N == M) = false := by simp [h1]
    have HF : Hid (D = false) := by show _ = _; rw [HD.out]; simp [h1]
    clear HD h1
    go_wp2
    go_ret
    exact ⟨by rw [HF.out]; rfl, HB.out⟩
  subst h1
  have k1 : (N != N) = false := by simp
  have k2 : (N == N) = true := by simp
  by_cases h2 : la = lb
  case neg =>
    have k3 : ((la : Int) != (lb : Int)) = true := by simp; omega
    have k4 : ((la : Int) == (lb : Int)) = false := by simp; omega
    have HF : Hid (D = false) := by
      show _ = _
      rw [HD.out, decide_eq_false (fun e : ws = vs => h2 (by rw [← HL.out.1, ← HL.out.2, e]))]
      simp
    clear HD h2
    go_wp2
    go_ret
    exact ⟨by rw [HF.out]; rfl, HB.out⟩
  subst h2
  have k3 : ((la : Int) != (la : Int)) = false := by simp
  go_wp2
  go_loopw [5] (fun v5 wr => ∃ k : Nat, v5 = .int .i64 (k : Int) ∧ k ≤ la ∧ Hid (∀ j, j < k → ws.getD j 0 = vs.getD j 0) ∧ Hid (Below V.heap.size V wr)) (fun v5 _ => la - (intOf v5).toNat)
  case atStart => exact ⟨0, rfl, Nat.zero_le _, fun j hj => absurd hj (Nat.not_lt_zero _), Below.refl _ _⟩
  case round =>
    obtain ⟨k, rfl, hk, HJ, HBr⟩ := hrel
    replace x1 := bkeep HBr.out x1 rfl
    replace y1 := bkeep HBr.out y1 rfl
    clear x0 y0
    by_cases hlt : k < la
    · have hlti : (k : Int) < (la : Int) := by omega
      have hk0 : (0 : Int) ≤ (k : Int) := by omega
      have hkd : decide (k < la) = true := decide_eq_true hlt
      obtain ⟨b1, o1, rfl, c1⟩ := (HX.out.1.below HBr.out).cells (by omega)
      obtain ⟨b2, o2, rfl, c2⟩ := (HX.out.2.below HBr.out).cells (by omega)
      replace c1 := c1 k hlt
      replace c2 := c2 k hlt
      obtain ⟨x, hx⟩ : ∃ x, x = ws.getD k 0 := ⟨_, rfl⟩
      obtain ⟨y, hy⟩ : ∃ y, y = vs.getD k 0 := ⟨_, rfl⟩
      rw [← hx] at c1
      rw [← hy] at c2
      have HXY : Hid (x = ws.getD k 0 ∧ y = vs.getD k 0 ∧ k < la) := ⟨hx, hy, hlt⟩
      clear hx hy hlt
      by_cases hxy : x = y
      · have q1 : (x != y) = false := by simp [hxy]
        have HJ2 : Hid (∀ j, j < k + 1 → ws.getD j 0 = vs.getD j 0) := fun j hj => by
          by_cases e : j = k
          · rw [e, ← HXY.out.1, ← HXY.out.2.1, hxy]
          · exact HJ.out j (by omega)
        clear HJ hxy
        go_wp2_with fail
        go_quiet (fail)
        go_wp2
        go_roundw
        case rel => exact ⟨k + 1, by go_num, HXY.out.2.2, HJ2.out, below_drewN HBr.out _⟩
        case measure => have := HXY.out.2.2; simp [intOf]; omega
      · have q1 : (x != y) = true := by simp [hxy]
        have HF : Hid (D = false) := by
          show _ = _
          rw [HD.out, decide_eq_false (fun e : ws = vs => hxy (by rw [HXY.out.1, HXY.out.2.1, e]))]
          simp
        clear HJ hxy
        go_wp2_with fail
        go_quiet (fail)
        go_wp2
        go_ret
        exact ⟨by rw [HF.out]; rfl, below_drewN (bthen HB.out HBr.out) _⟩
    · obtain rfl : k = la := by omega
      have hkd : decide (k < k) = false := decide_eq_false (by omega)
      have HF : Hid (D = true) := by
        show _ = _
        rw [HD.out, decide_eq_true (ext_getD (d := 0) (by rw [HL.out.1, HL.out.2]) (fun j hj => HJ.out j (by rw [← HL.out.1]; exact hj)) : ws = vs)]
        simp
      clear HJ hlt
      go_wp2
      go_ret
      exact ⟨by rw [HF.out]; rfl, bthen HB.out HBr.out⟩
end Go.Proofs.Ytfgccldkbolkoaa

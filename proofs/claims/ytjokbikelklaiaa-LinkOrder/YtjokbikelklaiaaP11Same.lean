/-
  Stage 11's laws: sameAll of two rows of the same bytes.
-/
import Derived.Test.YtjokbikelklaiaaM11
import Derived.BigQuiet
namespace Go.Proofs.Ytjokbikelklaiaa
open Go.RowKit

theorem Byts.drewN {w : World} {a : Option Addr} {l c : Nat} {L : List Int} (h : Byts w a l c L) (j : Nat) : Byts (w.drewN j) a l c L := ⟨h.hlen, h.hcap, h.hmax, h.cells, h.word⟩
set_option maxRecDepth 20000 in
set_option maxHeartbeats 3200000 in
theorem same11_any (v v2 : Value) (xs : List (List Int)) (w : World) (hx : RowB w v xs) (hy : RowB w v2 xs) (hl : xs.length ≤ 2147483648) :
    Calls Try.prog 15 #[v, v2] w fun e w' => e = .returned (.bool true) ∧ ∃ k, w' = w.drewN k := by
  obtain ⟨n, hn⟩ : ∃ n, n = xs.length := ⟨_, rfl⟩
  obtain ⟨a1, c1, e1, -, hc1, hm1⟩ := hx.slice
  obtain ⟨a2, c2, e2, -, hc2, hm2⟩ := hy.slice
  rw [← hn] at e1 e2 hc1 hc2 hl
  have HX : Hid (RowB w v xs ∧ RowB w v2 xs ∧ n = xs.length) := ⟨hx, hy, hn⟩
  unfold maxLen at hm1 hm2
  subst e1
  subst e2
  clear hx hy hn
  go_enter Try.func15, Try.ntmps15
  go_wp2
  go_loopw [5] (fun v5 wr => ∃ k j : Nat, v5 = .int .i64 k ∧ k ≤ n ∧ wr = w.drewN j) (fun v5 _ => n - (intOf v5).toNat)
  case atStart => exact ⟨0, 0, rfl, Nat.zero_le _, rfl⟩
  case round =>
    obtain ⟨k, j, rfl, hk, hwr⟩ := hrel
    have HW : Hid (wr = w.drewN j) := hwr
    have hcw : ∀ p v, w.cell? p = some v → wr.cell? p = some v := fun p v h => by rw [hwr]; exact h
    have hbw : ∀ {a l c L}, Byts w a l c L → Byts wr a l c L := fun h => by rw [hwr]; exact h.drewN j
    clear hwr
    by_cases hlt : k < n
    · have hlti : (k : Int) < (n : Int) := by omega
      have hk0 : (0 : Int) ≤ (k : Int) := by omega
      obtain ⟨g1, d1, p1, m1, q1, x1, y1, z1⟩ := HX.out.1.at (i := k) (by rw [← HX.out.2.2]; exact hlt)
      obtain ⟨g2, d2, p2, m2, q2, x2, y2, z2⟩ := HX.out.2.1.at (i := k) (by rw [← HX.out.2.2]; exact hlt)
      rw [← HX.out.2.2] at x1 x2
      obtain ⟨rfl, -, rfl⟩ : a1 = some ⟨g1, 0, none⟩ ∧ n = n ∧ c1 = d1 := by injection x1 with r1 r2 r3; exact ⟨r1, rfl, r3⟩
      obtain ⟨rfl, -, rfl⟩ : a2 = some ⟨g2, 0, none⟩ ∧ n = n ∧ c2 = d2 := by injection x2 with r1 r2 r3; exact ⟨r1, rfl, r3⟩
      obtain ⟨S, hS⟩ : ∃ S, S = strOf (xs.getD k []) := ⟨_, rfl⟩
      have cv1 : ∀ i, (convert 31 9 (.slice p1 m1 q1)).run Try.prog (wr.drewN i) = .ok (.string S) (wr.drewN i) := fun i => by rw [hS]; exact conv_any ((hbw z1.byts).drewN i)
      have cv2 : ∀ i, (convert 31 9 (.slice p2 m2 q2)).run Try.prog (wr.drewN i) = .ok (.string S) (wr.drewN i) := fun i => by rw [hS]; exact conv_any ((hbw z2.byts).drewN i)
      replace y1 := hcw _ _ y1
      replace y2 := hcw _ _ y2
      clear hS z1 z2 x1 x2 hcw hbw
      go_wp2_with fail
      go_quiet (fail)
      go_wp2
      go_roundw
      case rel => exact ⟨k + 1, _, by go_num, by omega, by rw [HW.out, World.drewN_drewN]⟩
      case measure => simp [intOf]; omega
    · obtain rfl : k = n := by omega
      go_wp2
      go_ret
      exact ⟨rfl, j, HW.out⟩
end Go.Proofs.Ytjokbikelklaiaa

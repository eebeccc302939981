/-
  Contracts of cut and trimmed: the same limbs without the noughts behind.
-/
import Derived.Test.YtaipkganijofjabNum
namespace Go.Proofs.Ytaipkganijofjab
open Go.RowKit

theorem Nums.take {w : World} {a : Option Addr} {len cap : Nat} {zs : List Int} (h : Nums w a len cap zs) {k : Nat} (hk : k ≤ len) : Nums w a k cap (zs.take k) := by
  have hl := h.hlen
  refine ⟨by simp; omega, Nat.le_trans hk h.hcap, h.hmax, fun hp => ?_, fun x hx => h.word x (List.mem_of_mem_take hx)⟩
  obtain ⟨b, off, ha, hc⟩ := h.cells (by omega)
  refine ⟨b, off, ha, fun i hi => ?_⟩
  rw [hc i (by omega)]
  simp [List.getD, hi]

theorem Nums.digs {w : World} {a : Option Addr} {len cap : Nat} {zs : List Int} (h : Nums w a len cap zs) : Digs 18446744073709551616 zs := h.word

set_option maxHeartbeats 400000 in
theorem cut_any (a : Option Addr) (len cap : Nat) (zs : List Int) (w : World) (h : Nums w a len cap zs) :
    Calls Try.prog 78 #[.slice a len cap] w fun e w' => ∃ k, e = .returned (.slice a k cap) ∧ Trim zs k ∧ w' = w := by
  have hl := h.hlen
  have hm := h.hmax
  have hcp := h.hcap
  unfold maxLen at hm
  by_cases h0 : len = 0
  · subst h0
    have ht : Trim zs 0 := ⟨Nat.zero_le _, fun j _ hj => by omega, .inl rfl⟩
    cases a with
    | none =>
      go_enter Try.func78, Try.ntmps78
      go_wp2
      go_loopw [3] (fun i wr => i = .int .i64 0 ∧ wr = w) (fun _ _ => 0)
      case atStart => exact ⟨rfl, rfl⟩
      case round =>
        obtain ⟨rfl, rfl⟩ := hrel
        go_wp2
        go_ret
        exact ⟨0, rfl, ht, rfl⟩
    | some x =>
      go_enter Try.func78, Try.ntmps78
      go_wp2
      go_loopw [3] (fun i wr => i = .int .i64 0 ∧ wr = w) (fun _ _ => 0)
      case atStart => exact ⟨rfl, rfl⟩
      case round =>
        obtain ⟨rfl, rfl⟩ := hrel
        go_wp2
        go_ret
        exact ⟨0, rfl, ht, rfl⟩
  · obtain ⟨b, off, rfl, hc⟩ := h.cells (by omega)
    clear h
    go_enter Try.func78, Try.ntmps78
    go_wp2
    go_loopw [3] (fun i wr => ∃ k : Nat, k ≤ len ∧ i = .int .i64 k ∧ (∀ j, k ≤ j → j < len → zs.getD j 0 = 0) ∧ wr = w) (fun i _ => (intOf i).toNat)
    case atStart => exact ⟨len, Nat.le_refl _, rfl, fun j h1 h2 => by omega, rfl⟩
    case round =>
      obtain ⟨k, hk, rfl, heq, rfl⟩ := hrel
      have HE : Hid (∀ j, k ≤ j → j < len → zs.getD j 0 = 0) := heq
      have HL : Hid (zs.length = len) := hl
      clear heq
      by_cases hk0 : k = 0
      · subst hk0
        go_wp2
        go_ret
        exact ⟨0, rfl, ⟨Nat.zero_le _, fun j h1 h2 => HE.out j h1 (by have := HL.out; omega), .inl rfl⟩, rfl⟩
      · have hp : (0 : Int) < (k : Int) := by omega
        have hlt : ((k : Int) - 1) < (len : Int) := by omega
        have hge : 0 ≤ ((k : Int) - 1) := by omega
        obtain ⟨x, hx⟩ : ∃ x, x = zs.getD (k - 1) 0 := ⟨_, rfl⟩
        have c1 : wr.cell? ⟨b, off + (k - 1), none⟩ = some (.int .u64 x) := by rw [hx]; exact hc (k - 1) (by omega)
        have HX : Hid (x = zs.getD (k - 1) 0) := hx
        clear hx hl
        by_cases hx0 : x = 0
        · subst hx0
          go_wp2
          go_roundw
          case rel =>
            refine ⟨k - 1, by omega, by go_num, fun j h1 h2 => ?_, by first | rfl | trivial⟩
            by_cases hj : k ≤ j
            · exact HE.out j hj h2
            · obtain rfl : j = k - 1 := by omega
              exact HX.out.symm
          case measure => simp [intOf]; omega
        · have hne : (x == 0) = false := by simp [hx0]
          go_wp2
          go_ret
          exact ⟨k, rfl, ⟨by have := HL.out; omega, fun j h1 h2 => HE.out j h1 (by have := HL.out; omega), .inr (by rw [← HX.out]; exact hx0)⟩, rfl⟩
set_option maxHeartbeats 400000 in
theorem trimmed_any (a : Option Addr) (len cap : Nat) (zs : List Int) (w : World) (h : Nums w a len cap zs) :
    Calls Try.prog 80 #[.slice a len cap] w fun e w' => ∃ a' k cap', e = .returned (.slice a' k cap') ∧ Trim zs k ∧ (k = 0 ∧ a' = none ∧ cap' = 0 ∨ 0 < k ∧ a' = a ∧ cap' = cap) ∧ w' = w := by
  have hl := h.hlen
  have hm := h.hmax
  have hcp := h.hcap
  unfold maxLen at hm
  by_cases h0 : len = 0
  · subst h0
    have ht : Trim zs 0 := ⟨Nat.zero_le _, fun j _ hj => by omega, .inl rfl⟩
    cases a with
    | none =>
      go_enter Try.func80, Try.ntmps80
      go_wp2
      go_loopw [3] (fun i wr => i = .int .i64 0 ∧ wr = w) (fun _ _ => 0)
      case atStart => exact ⟨rfl, rfl⟩
      case round =>
        obtain ⟨rfl, rfl⟩ := hrel
        go_wp2
        go_ret
        exact ⟨none, 0, 0, rfl, ht, .inl ⟨rfl, rfl, rfl⟩, rfl⟩
    | some x =>
      go_enter Try.func80, Try.ntmps80
      go_wp2
      go_loopw [3] (fun i wr => i = .int .i64 0 ∧ wr = w) (fun _ _ => 0)
      case atStart => exact ⟨rfl, rfl⟩
      case round =>
        obtain ⟨rfl, rfl⟩ := hrel
        go_wp2
        go_ret
        exact ⟨none, 0, 0, rfl, ht, .inl ⟨rfl, rfl, rfl⟩, rfl⟩
  · obtain ⟨b, off, rfl, hc⟩ := h.cells (by omega)
    clear h
    go_enter Try.func80, Try.ntmps80
    go_wp2
    go_loopw [3] (fun i wr => ∃ k : Nat, k ≤ len ∧ i = .int .i64 k ∧ (∀ j, k ≤ j → j < len → zs.getD j 0 = 0) ∧ wr = w) (fun i _ => (intOf i).toNat)
    case atStart => exact ⟨len, Nat.le_refl _, rfl, fun j h1 h2 => by omega, rfl⟩
    case round =>
      obtain ⟨k, hk, rfl, heq, rfl⟩ := hrel
      have HE : Hid (∀ j, k ≤ j → j < len → zs.getD j 0 = 0) := heq
      have HL : Hid (zs.length = len) := hl
      clear heq
      by_cases hk0 : k = 0
      · subst hk0
        go_wp2
        go_ret
        exact ⟨none, 0, 0, rfl, ⟨Nat.zero_le _, fun j h1 h2 => HE.out j h1 (by have := HL.out; omega), .inl rfl⟩, .inl ⟨rfl, rfl, rfl⟩, rfl⟩
      · have hp : (0 : Int) < (k : Int) := by omega
        have hlt : ((k : Int) - 1) < (len : Int) := by omega
        have hge : 0 ≤ ((k : Int) - 1) := by omega
        obtain ⟨x, hx⟩ : ∃ x, x = zs.getD (k - 1) 0 := ⟨_, rfl⟩
        have c1 : wr.cell? ⟨b, off + (k - 1), none⟩ = some (.int .u64 x) := by rw [hx]; exact hc (k - 1) (by omega)
        have HX : Hid (x = zs.getD (k - 1) 0) := hx
        clear hx hl
        by_cases hx0 : x = 0
        · subst hx0
          go_wp2
          go_roundw
          case rel =>
            refine ⟨k - 1, by omega, by go_num, fun j h1 h2 => ?_, by first | rfl | trivial⟩
            by_cases hj : k ≤ j
            · exact HE.out j hj h2
            · obtain rfl : j = k - 1 := by omega
              exact HX.out.symm
          case measure => simp [intOf]; omega
        · have hne : (x == 0) = false := by simp [hx0]
          have hkne : ((k : Int) == 0) = false := by simp; omega
          go_wp2
          go_ret
          exact ⟨_, k, cap, rfl, ⟨by have := HL.out; omega, fun j h1 h2 => HE.out j h1 (by have := HL.out; omega), .inr (by rw [← HX.out]; exact hx0)⟩, .inr ⟨by omega, rfl, rfl⟩, rfl⟩
end Go.Proofs.Ytaipkganijofjab

/-
  The contract of parted: a number's limbs below a place, and those from it on.
-/
import Derived.Test.YtaipkganijofjabLonghand
namespace Go.Proofs.Ytaipkganijofjab
open Go.RowKit

theorem Nums.drop {w : World} {b off len cap : Nat} {zs : List Int} (h : Nums w (some ⟨b, off, none⟩) len cap zs) {k : Nat} (hk : k ≤ len) {a' : Option Addr} {cap' : Nat} (hc' : len - k ≤ cap') (hm : cap' ≤ maxLen) (ha : k < len → a' = some ⟨b, off + k, none⟩) :
    Nums w a' (len - k) cap' (zs.drop k) := by
  have hl := h.hlen
  refine ⟨by simp; omega, hc', hm, fun hp => ⟨b, off + k, ha (by omega), fun i hi => ?_⟩, fun x hx => h.word x (List.mem_of_mem_drop hx)⟩
  obtain ⟨b1, o1, e, hc⟩ := h.cells (by omega)
  simp only [Option.some.injEq, Addr.mk.injEq, and_true] at e
  obtain ⟨rfl, rfl⟩ := e
  have := hc (k + i) (by omega)
  rw [← Nat.add_assoc] at this
  rw [this]
  simp [List.getD]

theorem below_draw (w : World) (n : Nat) : Below w.heap.size w (w.drewN n) := below_drewN (Below.refl _ _) n

set_option maxHeartbeats 400000 in
theorem parted_any (a : Option Addr) (len cap k : Nat) (xs : List Int) (w : World) (h : Nums w a len cap xs) (hp : 0 < len) (hn : len ≤ 10000) (hk : k ≤ 10000) :
    Calls Try.prog 96 #[.slice a len cap, .int .i64 (k : Int)] w fun e w' => ∃ a1 c1 a2 c2 k1 k2, e = .returned (.tuple #[.slice a1 k1 c1, .slice a2 k2 c2]) ∧ k1 = Nat.min k len ∧ k2 = len - Nat.min k len ∧
      Nums w' a1 k1 c1 (xs.take k) ∧ Nums w' a2 k2 c2 (xs.drop k) ∧ Below w.heap.size w w' := by
  have hl := h.hlen
  have hcp := h.hcap
  have hm := h.hmax
  have hmm := hm
  unfold maxLen at hm
  obtain ⟨b, off, rfl, hc⟩ := h.cells hp
  have hlc : (len : Int) ≤ (cap : Int) := by omega
  by_cases hlt : k < len
  · have hlti : (k : Int) < (len : Int) := by omega
    have hki : (k : Int) ≤ (cap : Int) := by omega
    have hne : ¬ cap = k := by omega
    have hmin : Nat.min k len = k := Nat.min_eq_left (Nat.le_of_lt hlt)
    have HM : Hid (Nat.min k len = k) := hmin
    clear hmin
    go_enter Try.func96, Try.ntmps96
    go_wp2
    go_quiet (fail)
    go_wp2
    go_ret2
    have hb := below_draw w nq
    exact ⟨_, _, _, _, _, _, rfl, HM.out.symm, by rw [HM.out], (h.take (by omega)).below hb, (h.drop (by omega) (by omega) (by omega) (fun _ => rfl)).below hb, hb⟩
  · have hN := h
    have hmin : Nat.min k len = len := Nat.min_eq_right (by omega)
    have HM : Hid (Nat.min k len = len) := hmin
    clear hmin h
    have ht : Hid (xs.take k = xs ∧ xs.drop k = []) := ⟨List.take_of_length_le (by omega), List.drop_eq_nil_of_le (by omega)⟩
    by_cases hkl : len < k
    · have hkli : (len : Int) < (k : Int) := by omega
      by_cases hce : cap = len
      · subst hce
        go_enter Try.func96, Try.ntmps96
        go_wp2
        go_quiet (fail)
        go_wp2
        go_ret2
        have hb := below_draw w nq
        refine ⟨_, _, _, _, _, _, rfl, HM.out.symm, by rw [HM.out]; omega, ?_, ?_, hb⟩
        · rw [ht.out.1]; exact hN.below hb
        · rw [ht.out.2]; exact ⟨rfl, Nat.zero_le _, Nat.zero_le _, fun h => absurd h (Nat.lt_irrefl _), fun x hx => by cases hx⟩
      · skip
        go_enter Try.func96, Try.ntmps96
        go_wp2
        go_quiet (fail)
        go_wp2
        go_ret2
        have hb := below_draw w nq
        refine ⟨_, _, _, _, _, _, rfl, HM.out.symm, by rw [HM.out]; omega, ?_, ?_, hb⟩
        · rw [ht.out.1]; exact hN.below hb
        · rw [ht.out.2]; exact ⟨rfl, Nat.zero_le _, by omega, fun h => absurd h (Nat.lt_irrefl _), fun x hx => by cases hx⟩
    · obtain rfl : k = len := by omega
      by_cases hce : cap = k
      · subst hce
        go_enter Try.func96, Try.ntmps96
        go_wp2
        go_quiet (fail)
        go_wp2
        go_ret2
        have hb := below_draw w nq
        refine ⟨_, _, _, _, _, _, rfl, HM.out.symm, by rw [HM.out]; omega, ?_, ?_, hb⟩
        · rw [ht.out.1]; exact hN.below hb
        · rw [ht.out.2]; exact ⟨rfl, Nat.zero_le _, Nat.zero_le _, fun h => absurd h (Nat.lt_irrefl _), fun x hx => by cases hx⟩
      · skip
        go_enter Try.func96, Try.ntmps96
        go_wp2
        go_quiet (fail)
        go_wp2
        go_ret2
        have hb := below_draw w nq
        refine ⟨_, _, _, _, _, _, rfl, HM.out.symm, by rw [HM.out]; omega, ?_, ?_, hb⟩
        · rw [ht.out.1]; exact hN.below hb
        · rw [ht.out.2]; exact ⟨rfl, Nat.zero_le _, by omega, fun h => absurd h (Nat.lt_irrefl _), fun x hx => by cases hx⟩
end Go.Proofs.Ytaipkganijofjab

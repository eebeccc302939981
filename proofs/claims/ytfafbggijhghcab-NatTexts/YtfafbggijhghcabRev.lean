/-
  The contract of slices.Reverse at bytes.
-/
import Derived.Test.YtfafbggijhghcabBConv
namespace Go.Proofs.Ytfafbggijhghcab
open Go.RowKit

theorem grown_refl (w : World) (row : Option Nat) : w.grownBy w row := World.grownBy.refl _ _

theorem rev_step {L M : List Int} {n i : Nat} (hl : M.length = L.length) (hn : n ≤ L.length) (hi : i < n - 1 - i)
    (h1 : ∀ q, q < n → (q < i ∨ n - 1 - q < i) → M.getD q 0 = L.getD (n - 1 - q) 0) (h2 : ∀ q, i ≤ q → i ≤ n - 1 - q → q < n → M.getD q 0 = L.getD q 0) (N : List Int) (hN : N = (M.set i (M.getD (n - 1 - i) 0)).set (n - 1 - i) (M.getD i 0)) :
    N.length = L.length ∧ (∀ q, q < n → (q < i + 1 ∨ n - 1 - q < i + 1) → N.getD q 0 = L.getD (n - 1 - q) 0) ∧ (∀ q, i + 1 ≤ q → i + 1 ≤ n - 1 - q → q < n → N.getD q 0 = L.getD q 0) := by
  subst hN
  refine ⟨by simpa using hl, fun q hq hc => ?_, fun q a b c => ?_⟩
  · by_cases e1 : q = n - 1 - i
    · subst e1
      rw [getD_set_self (by simp; omega), h2 i (Nat.le_refl _) (by omega) (by omega)]
      congr 1; omega
    · rw [getD_set_ne (by omega)]
      by_cases e2 : q = i
      · subst e2
        rw [getD_set_self (by omega)]
        exact h2 (n - 1 - q) (by omega) (by omega) (by omega)
      · rw [getD_set_ne (by omega)]
        exact h1 q hq (by omega)
  · rw [getD_set_ne (by omega), getD_set_ne (by omega)]
    exact h2 q (by omega) (by omega) c

set_option maxHeartbeats 1600000 in
theorem rev_any (g n c : Nat) (L : List Int) (w : World) (h : BBlk w g L) (hn : n ≤ L.length) (hn2 : n ≤ 100000) :
    Calls Try.prog 61 #[.slice (some ⟨g, 0, none⟩) n c] w fun e w' => ∃ M, e = .returned (.tuple #[]) ∧ BBlk w' g M ∧ M.length = L.length ∧ (∀ q, q < n → M.getD q 0 = L.getD (n - 1 - q) 0) ∧ w.grownBy w' (some g) := by
  go_enter Try.func61, Try.ntmps61
  go_wp2
  go_loopw [2, 3] (fun iv jv wr => ∃ i : Nat, i ≤ n ∧ iv = .int .i64 i ∧ jv = .int .i64 ((n : Int) - 1 - (i : Int)) ∧ ∃ M, BBlk wr g M ∧ Hid (M.length = L.length ∧ (∀ q, q < n → (q < i ∨ n - 1 - q < i) → M.getD q 0 = L.getD (n - 1 - q) 0) ∧ (∀ q, i ≤ q → i ≤ n - 1 - q → q < n → M.getD q 0 = L.getD q 0)) ∧ w.grownBy wr (some g)) (fun iv _ _ => n - (intOf iv).toNat)
  case atStart => exact ⟨0, Nat.zero_le _, rfl, by go_num, L, h, ⟨rfl, fun q hq hc => by omega, fun _ _ _ _ => rfl⟩, grown_refl _ _⟩
  case round =>
    obtain ⟨i, hi, rfl, rfl, M, hbM, HM, hgr⟩ := hrel
    by_cases hlt : i < n - 1 - i
    · have hlti : (i : Int) < (n : Int) - 1 - (i : Int) := by omega
      have hj : (n : Int) - 1 - (i : Int) < (n : Int) := by omega
      have hj0 : 0 ≤ (n : Int) - 1 - (i : Int) := by omega
      have hin : (i : Int) < (n : Int) := by omega
      have hml := HM.out.1
      obtain ⟨x, hx⟩ : ∃ x, x = M.getD i 0 := ⟨_, rfl⟩
      obtain ⟨y, hy⟩ : ∃ y, y = M.getD (n - 1 - i) 0 := ⟨_, rfl⟩
      have hc1 : wr.cell? ⟨g, i, none⟩ = some (.int .u8 x) := by rw [hx]; exact hbM.cell (by omega)
      have hc2 : wr.cell? ⟨g, n - 1 - i, none⟩ = some (.int .u8 y) := by rw [hy]; exact hbM.cell (by omega)
      have hf1 : wr.frozen? ⟨g, i, none⟩ = false := hbM.frozen _
      have hf2 : wr.frozen? ⟨g, n - 1 - i, none⟩ = false := hbM.frozen _
      have hne : ¬ i = n - 1 - i := by omega
      have hne2 : ¬ n - 1 - i = i := by omega
      have R := rev_step HM.out.1 hn hlt HM.out.2.1 HM.out.2.2 ((M.set i y).set (n - 1 - i) x) (by rw [hx, hy])
      have HR : Hid (((M.set i y).set (n - 1 - i) x).length = L.length ∧ (∀ q, q < n → (q < i + 1 ∨ n - 1 - q < i + 1) → ((M.set i y).set (n - 1 - i) x).getD q 0 = L.getD (n - 1 - q) 0) ∧ (∀ q, i + 1 ≤ q → i + 1 ≤ n - 1 - q → q < n → ((M.set i y).set (n - 1 - i) x).getD q 0 = L.getD q 0)) := R
      have HB1 : Hid (BBlk ((wr.setCell ⟨g, i, none⟩ (.int .u8 y)).setCell ⟨g, n - 1 - i, none⟩ (.int .u8 x)) g ((M.set i y).set (n - 1 - i) x)) := (hbM.set i y).set (n - 1 - i) x
      have HB2 : Hid (BBlk ((wr.setCell ⟨g, n - 1 - i, none⟩ (.int .u8 x)).setCell ⟨g, i, none⟩ (.int .u8 y)) g ((M.set i y).set (n - 1 - i) x)) := by
        have := (hbM.set (n - 1 - i) x).set i y
        rw [List.set_comm _ _ (by omega)] at this
        exact this
      have HG1 : Hid (w.grownBy ((wr.setCell ⟨g, i, none⟩ (.int .u8 y)).setCell ⟨g, n - 1 - i, none⟩ (.int .u8 x)) (some g)) := grown_trans (grown_trans hgr (grown_set wr g i _)) (grown_set _ g _ _)
      have HG2 : Hid (w.grownBy ((wr.setCell ⟨g, n - 1 - i, none⟩ (.int .u8 x)).setCell ⟨g, i, none⟩ (.int .u8 y)) (some g)) := grown_trans (grown_trans hgr (grown_set wr g (n - 1 - i) _)) (grown_set _ g _ _)
      clear hx hy R HM hml hbM hgr
      go_wp2_with fail
      go_region
      all_goals
        go_wp2
        go_roundw
        case rel => first
          | exact ⟨i + 1, by omega, by go_num, by go_num, _, HB1.out, HR.out, grown_trans HG1.out ⟨rfl, rfl, rfl, Nat.le_refl _, fun _ _ _ => rfl⟩⟩
          | exact ⟨i + 1, by omega, by go_num, by go_num, _, HB2.out, HR.out, grown_trans HG2.out ⟨rfl, rfl, rfl, Nat.le_refl _, fun _ _ _ => rfl⟩⟩
        case measure => simp [intOf]; omega
    · have hge : ¬ (i : Int) < (n : Int) - 1 - (i : Int) := by omega
      have hgd : decide ((i : Int) < (n : Int) - 1 - (i : Int)) = false := by simp; omega
      have HF : Hid (M.length = L.length ∧ ∀ q, q < n → M.getD q 0 = L.getD (n - 1 - q) 0) := by
        refine ⟨HM.out.1, fun q hq => ?_⟩
        by_cases hc : q < i ∨ n - 1 - q < i
        · exact HM.out.2.1 q hq hc
        · rw [HM.out.2.2 q (by omega) (by omega) hq]; congr 1; omega
      clear HM
      go_wp2
      go_end0
      exact ⟨rfl, M, hbM, HF.out.1, HF.out.2, hgr⟩
end Go.Proofs.Ytfafbggijhghcab

/-
  Contracts of the small functions: limb, Of, Small, Same, Compare and few, each for every argument.
-/
import Derived.Test.YtaipkganijofjabBase
namespace Go.Proofs.Ytaipkganijofjab
open Go.RowKit

theorem ret_int {k : IntKind} {a b : Int} (h : a = b) : Ending.returned (.int k a) = .returned (.int k b) := by rw [h]
theorem ret_bool {a b : Bool} (h : a = b) : Ending.returned (.bool a) = .returned (.bool b) := by rw [h]

/-- The list of a small number. -/
def ofZ (n : Int) : List Int := if n = 0 then [] else [n]

set_option maxHeartbeats 400000 in
theorem of_any (n : Int) (w : World) (hn : 0 ≤ n ∧ n < 18446744073709551616) :
    Calls Try.prog 30 #[.int .u64 n] w fun e w' => ∃ a len cap, e = .returned (.slice a len cap) ∧ Nums w' a len cap (ofZ n) ∧ Below w.heap.size w w' := by
  by_cases h0 : n = 0
  · subst h0
    go_enter Try.func30, Try.ntmps30
    go_wp2
    go_ret
    exact ⟨none, 0, 0, rfl, Nums.nil _, Below.refl _ _⟩
  · have hne : (n == 0) = false := by simp [h0]
    go_enter Try.func30, Try.ntmps30
    go_wp2
    go_ret
    exact ⟨_, _, _, rfl, by rw [ofZ, if_neg h0]; exact Nums.lit1 w n hn _, (Below.refl _ _).alloc (Nat.le_refl _) _⟩

set_option maxHeartbeats 400000 in
theorem refOf_any (n : Int) (w : World) (hn : 0 ≤ n ∧ n < 18446744073709551616) :
    Calls Try.prog 33 #[.int .u64 n] w fun e w' => ∃ a len cap, e = .returned (.slice a len cap) ∧ Nums w' a len cap (ofZ n) ∧ Below w.heap.size w w' := by
  by_cases h0 : n = 0
  · subst h0
    go_enter Try.func33, Try.ntmps33
    go_wp2
    go_ret
    exact ⟨none, 0, 0, rfl, Nums.nil _, Below.refl _ _⟩
  · have hne : (n == 0) = false := by simp [h0]
    go_enter Try.func33, Try.ntmps33
    go_wp2
    go_ret
    exact ⟨_, _, _, rfl, by rw [ofZ, if_neg h0]; exact Nums.lit1 w n hn _, (Below.refl _ _).alloc (Nat.le_refl _) _⟩

/-- The limb at a place, 0 outside. -/
def limbZ (zs : List Int) (i : Int) : Int := if i < 0 then 0 else zs.getD i.toNat 0

set_option maxHeartbeats 400000 in
theorem limb_any (a : Option Addr) (len cap : Nat) (zs : List Int) (i : Int) (w : World) (h : Nums w a len cap zs) :
    Calls Try.prog 101 #[.slice a len cap, .int .i64 i] w fun e w' => e = .returned (.int .u64 (limbZ zs i)) ∧ w' = w := by
  obtain ⟨hl, hcp, hm, hcells, hw⟩ := h
  by_cases h0 : i < 0
  · have e : limbZ zs i = 0 := by simp [limbZ, h0]
    rw [e]
    go_enter Try.func101, Try.ntmps101
    go_wp2
    go_ret
    exact ⟨rfl, rfl⟩
  · have hd : decide (i < 0) = false := by simp; omega
    by_cases h1 : (len : Int) ≤ i
    · have e : limbZ zs i = 0 := by
        have : ¬ i.toNat < zs.length := by omega
        simp only [limbZ, h0, if_false, List.getD]; rw [List.getElem?_eq_none (by omega)]; rfl
      rw [e]
      go_enter Try.func101, Try.ntmps101
      go_wp2
      go_ret
      exact ⟨rfl, rfl⟩
    · obtain ⟨b, off, rfl, hc⟩ := hcells (by omega)
      have hlt : i < (len : Int) := by omega
      have hge : 0 ≤ i := by omega
      have hd1 : decide ((len : Int) ≤ i) = false := by simp; omega
      have hcl := hc i.toNat (by omega)
      obtain ⟨x, hx⟩ : ∃ x, x = zs.getD i.toNat 0 := ⟨_, rfl⟩
      rw [← hx] at hcl
      have e : limbZ zs i = x := by simp only [limbZ, h0, if_false]; exact hx.symm
      rw [e]
      clear e hx hc hcells
      go_enter Try.func101, Try.ntmps101
      go_wp2
      go_ret
      exact ⟨rfl, rfl⟩

/-- A number as a small one. -/
def smallZ (zs : List Int) : Int := if rightB zs && decide (zs.length ≤ 1) then zs.getD 0 0 else 0
def smallB (zs : List Int) : Bool := rightB zs && decide (zs.length ≤ 1)

end Go.Proofs.Ytaipkganijofjab

/-
  The base of the seat's proofs: how a slice of 64-bit words lies in memory, and the contracts of the small functions that only read it.
-/
import Derived.Test.YtaipkganijofjabRows
import Derived.WalkKit
import Derived.WalkSpells
import Derived.WalkLawsBesides
import Derived.ProofKit
import Derived.Below
import Derived.Deep.QuietTactic
import Derived.BigQuiet
namespace Go.Proofs.Ytaipkganijofjab
open Go.RowKit

/-- The slice (a, len, cap) of 64-bit words reads as the list zs. -/
structure Nums (w : World) (a : Option Addr) (len cap : Nat) (zs : List Int) : Prop where
  hlen : zs.length = len
  hcap : len ≤ cap
  hmax : cap ≤ maxLen
  cells : 0 < len → ∃ b off, a = some ⟨b, off, none⟩ ∧ ∀ i, i < len → w.cell? ⟨b, off + i, none⟩ = some (.int .u64 (zs.getD i 0))
  word : ∀ x, x ∈ zs → 0 ≤ x ∧ x < 18446744073709551616

theorem Nums.below {w w' : World} {a : Option Addr} {len cap : Nat} {zs : List Int} (h : Nums w a len cap zs) (hb : Below w.heap.size w w') : Nums w' a len cap zs := by
  refine ⟨h.hlen, h.hcap, h.hmax, fun hp => ?_, h.word⟩
  obtain ⟨b, off, ha, hc⟩ := h.cells hp
  exact ⟨b, off, ha, fun i hi => (hb.cell (p := ⟨b, off + i, none⟩) (World.block_lt_of_cell? w _ (hc i hi))).trans (hc i hi)⟩

/-- What a shell is told of a slice of integers that came in: it is nil; or it leads to a row of 'cap' cells, the numbers 'zs' (the first 'len' are its elements, the rest its spare room), each fitting its kind. -/
def IsRow (k : IntKind) (w : World) (a : Option Addr) (len cap : Nat) (zs : List Int) : Prop :=
  (a = none ∧ len = 0 ∧ cap = 0 ∧ zs = []) ∨
  ∃ x, a = some x ∧ len ≤ cap ∧ cap ≤ maxLen ∧ zs.length = cap ∧ (∀ i, i < zs.length → w.cell? (x.add i) = some (.int k (zs.getD i 0))) ∧ ∀ n ∈ zs, (Lit.int k n).wf = true

theorem word_of_wf {x : Int} (h : (Lit.int .u64 x).wf = true) : 0 ≤ x ∧ x < 18446744073709551616 := by
  simp [Lit.wf, IntKind.min, IntKind.max, IntKind.signed, IntKind.bits] at h
  exact ⟨by omega, by omega⟩

theorem Nums.of_row {w : World} {a : Option Addr} {len cap : Nat} {zs : List Int} (h : IsRow .u64 w a len cap zs) : Nums w a len cap (zs.take len) := by
  rcases h with ⟨rfl, rfl, rfl, rfl⟩ | ⟨x, rfl, hl, hm, hz, hcell, hwf⟩
  · exact ⟨rfl, Nat.le_refl _, Nat.zero_le _, fun h => absurd h (Nat.lt_irrefl _), fun x hx => by simp at hx⟩
  · refine ⟨by simp; omega, hl, hm, fun hp => ?_, fun y hy => word_of_wf (hwf y (List.mem_of_mem_take hy))⟩
    obtain ⟨b, off, spot⟩ := x
    have hc := hcell 0 (by omega)
    have hspot : spot = none := by simpa [Addr.add] using World.cell?_spot hc
    subst hspot
    refine ⟨b, off, rfl, fun i hi => ?_⟩
    have hi' := hcell i (by omega)
    rw [show (zs.take len).getD i 0 = zs.getD i 0 by simp [List.getD, hi]]
    rw [Addr.add_lit] at hi'
    exact hi'

theorem Nums.nil (w : World) : Nums w none 0 0 [] := ⟨rfl, Nat.le_refl _, Nat.zero_le _, fun h => absurd h (Nat.lt_irrefl _), fun x hx => by cases hx⟩

/-- May these limbs be a number's? -/
def rightB (zs : List Int) : Bool := decide (zs.length ≤ 64) && (zs.length == 0 || zs.getD (zs.length - 1) 0 != 0)

set_option maxHeartbeats 400000 in
theorem right_any (a : Option Addr) (len cap : Nat) (zs : List Int) (w : World) (h : Nums w a len cap zs) :
    Calls Try.prog 26 #[.slice a len cap] w fun e w' => e = .returned (.bool (rightB zs)) ∧ w' = w := by
  obtain ⟨hl, hcp, hm, hcells, hw⟩ := h
  by_cases h0 : len = 0
  · subst h0
    have e : rightB zs = true := by simp [rightB, hl]
    rw [e]
    go_enter Try.func26, Try.ntmps26
    go_wp2
    go_ret
    exact ⟨rfl, rfl⟩
  · obtain ⟨b, off, rfl, hc⟩ := hcells (by omega)
    have hne : ((len : Int) == 0) = false := by simp; omega
    have hp : (0 : Int) < (len : Int) := by omega
    unfold maxLen at hm
    by_cases h1 : len ≤ 64
    · have hcl := hc (len - 1) (by omega)
      have e : rightB zs = (zs.getD (len - 1) 0 != 0) := by simp [rightB, hl, h1, h0]
      rw [e]
      go_enter Try.func26, Try.ntmps26
      go_wp2
      go_ret
      exact ⟨rfl, rfl⟩
    · have e : rightB zs = false := by simp [rightB, hl, h1]
      rw [e]
      have hd : decide ((len : Int) ≤ 64) = false := by simp; omega
      go_enter Try.func26, Try.ntmps26
      go_wp2
      go_ret
      exact ⟨rfl, rfl⟩

set_option maxHeartbeats 400000 in
theorem refRight_any (a : Option Addr) (len cap : Nat) (zs : List Int) (w : World) (h : Nums w a len cap zs) :
    Calls Try.prog 18 #[.slice a len cap] w fun e w' => e = .returned (.bool (rightB zs)) ∧ w' = w := by
  obtain ⟨hl, hcp, hm, hcells, hw⟩ := h
  by_cases h0 : len = 0
  · subst h0
    have e : rightB zs = true := by simp [rightB, hl]
    rw [e]
    go_enter Try.func18, Try.ntmps18
    go_wp2
    go_ret
    exact ⟨rfl, rfl⟩
  · obtain ⟨b, off, rfl, hc⟩ := hcells (by omega)
    have hne : ((len : Int) == 0) = false := by simp; omega
    have hp : (0 : Int) < (len : Int) := by omega
    unfold maxLen at hm
    by_cases h1 : len ≤ 64
    · have hcl := hc (len - 1) (by omega)
      have e : rightB zs = (zs.getD (len - 1) 0 != 0) := by simp [rightB, hl, h1, h0]
      rw [e]
      go_enter Try.func18, Try.ntmps18
      go_wp2
      go_ret
      exact ⟨rfl, rfl⟩
    · have e : rightB zs = false := by simp [rightB, hl, h1]
      rw [e]
      have hd : decide ((len : Int) ≤ 64) = false := by simp; omega
      go_enter Try.func18, Try.ntmps18
      go_wp2
      go_ret
      exact ⟨rfl, rfl⟩

theorem Nums.lit1 (w : World) (x : Int) (hx : 0 ≤ x ∧ x < 18446744073709551616) (t : TypeId) : Nums (w.alloc (.cells #[.int .u64 x] t)) (some ⟨w.heap.size, 0, none⟩) 1 1 [x] := by
  refine ⟨rfl, Nat.le_refl _, by decide, fun _ => ⟨_, _, rfl, fun i hi => ?_⟩, fun y hy => ?_⟩
  · obtain rfl : i = 0 := by omega
    simp
  · simp at hy; subst hy; exact hx
end Go.Proofs.Ytaipkganijofjab

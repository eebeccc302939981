/-
  Contracts of the document's Small and Same, of cmp.Compare and of few, each for every argument.
-/
import Derived.Test.YtaipkganijofjabSmall
namespace Go.Proofs.Ytaipkganijofjab
open Go.RowKit

/-- -1, 0 or 1. -/
def cmpZ (x y : Int) : Int := if x < y then -1 else if y < x then 1 else 0

set_option maxHeartbeats 400000 in
theorem cmpInt_any (x y : Int) (w : World) :
    Calls Try.prog 60 #[.int .i64 x, .int .i64 y] w fun e w' => e = .returned (.int .i64 (cmpZ x y)) ∧ w' = w := by
  by_cases h : x < y
  · have e : cmpZ x y = -1 := by simp [cmpZ, h]
    rw [e]
    go_enter Try.func60, Try.ntmps60
    go_wp2
    go_ret
    exact ⟨rfl, rfl⟩
  · by_cases h' : y < x
    · have e : cmpZ x y = 1 := by simp [cmpZ, h, h']
      rw [e]
      go_enter Try.func60, Try.ntmps60
      go_wp2
      go_ret
      exact ⟨rfl, rfl⟩
    · have e : cmpZ x y = 0 := by simp [cmpZ, h, h']
      rw [e]
      go_enter Try.func60, Try.ntmps60
      go_wp2
      go_ret
      exact ⟨rfl, rfl⟩

set_option maxHeartbeats 400000 in
theorem cmpU64_any (x y : Int) (w : World) :
    Calls Try.prog 61 #[.int .u64 x, .int .u64 y] w fun e w' => e = .returned (.int .i64 (cmpZ x y)) ∧ w' = w := by
  by_cases h : x < y
  · have e : cmpZ x y = -1 := by simp [cmpZ, h]
    rw [e]
    go_enter Try.func61, Try.ntmps61
    go_wp2
    go_ret
    exact ⟨rfl, rfl⟩
  · by_cases h' : y < x
    · have e : cmpZ x y = 1 := by simp [cmpZ, h, h']
      rw [e]
      go_enter Try.func61, Try.ntmps61
      go_wp2
      go_ret
      exact ⟨rfl, rfl⟩
    · have e : cmpZ x y = 0 := by simp [cmpZ, h, h']
      rw [e]
      go_enter Try.func61, Try.ntmps61
      go_wp2
      go_ret
      exact ⟨rfl, rfl⟩

/-- The same limbs? -/
def sameB (zs ys : List Int) : Bool := decide (zs = ys)
theorem sameB_self (zs : List Int) : sameB zs zs = true := by simp [sameB]

theorem sameB_no {zs ys : List Int} {k : Nat} (hne : zs.getD k 0 ≠ ys.getD k 0) : sameB zs ys = false := by
  simp [sameB]; rintro rfl; exact hne rfl
theorem sameB_len {zs ys : List Int} (hne : zs.length ≠ ys.length) : sameB zs ys = false := by
  simp [sameB]; rintro rfl; exact hne rfl
theorem sameB_yes {zs ys : List Int} {k : Nat} (hl : zs.length = ys.length) (hk : zs.length ≤ k) (h : ∀ j, j < k → zs.getD j 0 = ys.getD j 0) : sameB zs ys = true := by
  simp only [sameB, decide_eq_true_eq]
  apply List.ext_getElem hl
  intro i h1 h2
  have := h i (by omega)
  simpa [List.getD, h1, h2] using this

set_option maxHeartbeats 400000 in
theorem same_any (a b : Option Addr) (la ca lb cb : Nat) (zs ys : List Int) (w : World) (h : Nums w a la ca zs) (h' : Nums w b lb cb ys) :
    Calls Try.prog 12 #[.slice a la ca, .slice b lb cb] w fun e w' => e = .returned (.bool (sameB zs ys)) ∧ Below w.heap.size w w' := by
  have hl := h.hlen
  have hl' := h'.hlen
  have hm := h.hmax
  have hcp := h.hcap
  unfold maxLen at hm
  by_cases hlen : la = lb
  · subst hlen
    by_cases h0 : la = 0
    · have e : sameB zs ys = true := by
        have e1 : zs = [] := List.eq_nil_of_length_eq_zero (by omega)
        have e2 : ys = [] := List.eq_nil_of_length_eq_zero (by omega)
        simp [sameB, e1, e2]
      rw [e]
      subst h0
      go_enter Try.func12, Try.ntmps12
      go_wp2
      go_loopw [5] (fun i wr => i = .int .i64 0 ∧ wr = w) (fun _ _ => 0)
      case atStart => exact ⟨rfl, rfl⟩
      case round =>
        obtain ⟨rfl, rfl⟩ := hrel
        go_wp2
        go_ret
        exact ⟨rfl, Below.refl _ _⟩
    · obtain ⟨b1, o1, rfl, hc⟩ := h.cells (by omega)
      obtain ⟨b2, o2, rfl, hc'⟩ := h'.cells (by omega)
      have hlt1 := World.block_lt_of_cell? w _ (hc 0 (by omega))
      have hlt2 := World.block_lt_of_cell? w _ (hc' 0 (by omega))
      have HL : Hid (zs.length = la ∧ ys.length = la) := ⟨hl, hl'⟩
      clear hl hl' h h'
      go_enter Try.func12, Try.ntmps12
      go_wp2
      go_loopw [5] (fun i wr => ∃ k : Nat, k ≤ la ∧ i = .int .i64 k ∧ (∀ j, j < k → zs.getD j 0 = ys.getD j 0) ∧ Below w.heap.size w wr) (fun i _ => la - (intOf i).toNat)
      case atStart => exact ⟨0, Nat.zero_le _, rfl, fun j hj => by omega, Below.refl _ _⟩
      case round =>
        obtain ⟨k, hk, rfl, heq, hb⟩ := hrel
        have HE : Hid (∀ j, j < k → zs.getD j 0 = ys.getD j 0) := heq
        clear heq
        by_cases hlt : k < la
        · obtain ⟨x, hx⟩ : ∃ x, x = zs.getD k 0 := ⟨_, rfl⟩
          obtain ⟨y, hy⟩ : ∃ y, y = ys.getD k 0 := ⟨_, rfl⟩
          have c1 : wr.cell? ⟨b1, o1 + k, none⟩ = some (.int .u64 x) := by rw [hx]; exact (hb.cell (p := ⟨b1, o1 + k, none⟩) hlt1).trans (hc k hlt)
          have c2 : wr.cell? ⟨b2, o2 + k, none⟩ = some (.int .u64 y) := by rw [hy]; exact (hb.cell (p := ⟨b2, o2 + k, none⟩) hlt2).trans (hc' k hlt)
          have HX : Hid (x = zs.getD k 0 ∧ y = ys.getD k 0) := ⟨hx, hy⟩
          clear hx hy
          have hlti : (k : Int) < (la : Int) := by omega
          by_cases hxy : x = y
          · subst hxy
            go_wp2
            go_quiet (fail)
            go_wp2
            go_roundw
            case rel =>
              refine ⟨k + 1, by omega, by go_num, fun j hj => ?_, ?_⟩
              · by_cases hjk : j < k
                · exact HE.out j hjk
                · obtain rfl : j = k := by omega
                  exact HX.out.1.symm.trans HX.out.2
              · exact below_drewN hb _
            case measure => simp [intOf]; omega
          · have hne : (x != y) = true := by simp [hxy]
            go_wp2
            go_quiet (fail)
            go_wp2
            go_ret
            exact ⟨ret_bool (sameB_no (by rw [← HX.out.1, ← HX.out.2]; exact hxy)).symm, below_drewN hb _⟩
        · go_wp2
          go_ret
          exact ⟨ret_bool (sameB_yes (HL.out.1.trans HL.out.2.symm) (by have := HL.out.1; omega) HE.out).symm, hb⟩
  · have e : sameB zs ys = false := sameB_len (by omega)
    rw [e]
    have hne : ((la : Int) != (lb : Int)) = true := by simp; omega
    go_enter Try.func12, Try.ntmps12
    go_wp2
    go_ret
    exact ⟨rfl, Below.refl _ _⟩
end Go.Proofs.Ytaipkganijofjab

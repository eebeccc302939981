/-
  The base of the seat's proofs: how a slice of 64-bit words lies in memory, and the contracts of the small functions that only read it.
  Contracts of the small functions: limb, Of, Small, Same, Compare and few, each for every argument.
  Contracts of the document's Small and Same, of cmp.Compare and of few, each for every argument.
  Plain arithmetic of digit lists: values, bounds, and that a number has one list without noughts behind.
  Contracts of cut and trimmed: the same limbs without the noughts behind.
  Contracts of the document's compare and of nat.Cmp: they compare the values.
  The contract of few: no list of limbs is longer than 70.
  Contracts of few and short: no list of limbs is longer than so many.
  Slices that the call itself makes by append: what they hold, and the laws of append at one word and at many.
  The contract of the document's In: a number as digits of base 65536, of the same value.
  The contract of the document's Cmp: it tells what nat.Cmp tells.
-/
import Derived.Test.YtchmlfjjgehbkaaRows
import Derived.WalkKit
import Derived.WalkSpells
import Derived.WalkLawsBesides
import Derived.ProofKit
import Derived.Below
import Derived.Deep.QuietTactic
import Derived.BigQuiet
import Derived.Laws.AppendOwnNone
namespace Go.Proofs.Ytchmlfjjgehbkaa
open Go.RowKit

/-- The slice (a, len, cap) of 64-bit words reads as the list zs. -/
structure Nums (w : World) (a : Option Addr) (len cap : Nat) (zs : List Int) : Prop where
  hlen : zs.length = len
  hcap : len ≤ cap
  hmax : cap ≤ maxLen
  cells : 0 < len → ∃ b off, a = some ⟨b, off, none⟩ ∧ ∀ i, i < len → w.cell? ⟨b, off + i, none⟩ = some (.int .u64 (zs.getD i 0))
  word : ∀ x, x ∈ zs → 0 ≤ x ∧ x < 18446744073709551616

theorem Nums.below {w w' : World} {a : Option Addr} {len cap : Nat} {zs : List Int} (h : Nums w a len cap zs) (hb : Below w.heap.size w w') : Nums w' a len cap zs := by
  refine ⟨h.hlen, h.hcap, h.hmax, fun hp => ?_, h.word⟩
  obtain ⟨b, off, ha, hc⟩ := h.cells hp
  exact ⟨b, off, ha, fun i hi => (hb.cell (p := ⟨b, off + i, none⟩) (World.block_lt_of_cell? w _ (hc i hi))).trans (hc i hi)⟩

/-- What a shell is told of a slice of integers that came in: it is nil; or it leads to a row of 'cap' cells, the numbers 'zs' (the first 'len' are its elements, the rest its spare room), each fitting its kind. -/
def IsRow (k : IntKind) (w : World) (a : Option Addr) (len cap : Nat) (zs : List Int) : Prop :=
  (a = none ∧ len = 0 ∧ cap = 0 ∧ zs = []) ∨
  ∃ x, a = some x ∧ len ≤ cap ∧ cap ≤ maxLen ∧ zs.length = cap ∧ (∀ i, i < zs.length → w.cell? (x.add i) = some (.int k (zs.getD i 0))) ∧ ∀ n ∈ zs, (Lit.int k n).wf = true

theorem word_of_wf {x : Int} (h : (Lit.int .u64 x).wf = true) : 0 ≤ x ∧ x < 18446744073709551616 := by
  simp [Lit.wf, IntKind.min, IntKind.max, IntKind.signed, IntKind.bits] at h
  exact ⟨by omega, by omega⟩

theorem Nums.of_row {w : World} {a : Option Addr} {len cap : Nat} {zs : List Int} (h : IsRow .u64 w a len cap zs) : Nums w a len cap (zs.take len) := by
  rcases h with ⟨rfl, rfl, rfl, rfl⟩ | ⟨x, rfl, hl, hm, hz, hcell, hwf⟩
  · exact ⟨rfl, Nat.le_refl _, Nat.zero_le _, fun h => absurd h (Nat.lt_irrefl _), fun x hx => by simp at hx⟩
  · refine ⟨by simp; omega, hl, hm, fun hp => ?_, fun y hy => word_of_wf (hwf y (List.mem_of_mem_take hy))⟩
    obtain ⟨b, off, spot⟩ := x
    have hc := hcell 0 (by omega)
    have hspot : spot = none := by simpa [Addr.add] using World.cell?_spot hc
    subst hspot
    refine ⟨b, off, rfl, fun i hi => ?_⟩
    have hi' := hcell i (by omega)
    rw [show (zs.take len).getD i 0 = zs.getD i 0 by simp [List.getD, hi]]
    rw [Addr.add_lit] at hi'
    exact hi'

theorem Nums.nil (w : World) : Nums w none 0 0 [] := ⟨rfl, Nat.le_refl _, Nat.zero_le _, fun h => absurd h (Nat.lt_irrefl _), fun x hx => by cases hx⟩

/-- May these limbs be a number's? -/
def rightB (zs : List Int) : Bool := decide (zs.length ≤ 64) && (zs.length == 0 || zs.getD (zs.length - 1) 0 != 0)

set_option maxHeartbeats 400000 in
theorem right_any (a : Option Addr) (len cap : Nat) (zs : List Int) (w : World) (h : Nums w a len cap zs) :
    Calls Try.prog 67 #[.slice a len cap] w fun e w' => e = .returned (.bool (rightB zs)) ∧ w' = w := by
  obtain ⟨hl, hcp, hm, hcells, hw⟩ := h
  by_cases h0 : len = 0
  · subst h0
    have e : rightB zs = true := by simp [rightB, hl]
    rw [e]
    go_enter Try.func67, Try.ntmps67
    go_wp2
    go_ret
    exact ⟨rfl, rfl⟩
  · obtain ⟨b, off, rfl, hc⟩ := hcells (by omega)
    have hne : ((len : Int) == 0) = false := by simp; omega
    have hp : (0 : Int) < (len : Int) := by omega
    unfold maxLen at hm
    by_cases h1 : len ≤ 64
    · have hcl := hc (len - 1) (by omega)
      have e : rightB zs = (zs.getD (len - 1) 0 != 0) := by simp [rightB, hl, h1, h0]
      rw [e]
      go_enter Try.func67, Try.ntmps67
      go_wp2
      go_ret
      exact ⟨rfl, rfl⟩
    · have e : rightB zs = false := by simp [rightB, hl, h1]
      rw [e]
      have hd : decide ((len : Int) ≤ 64) = false := by simp; omega
      go_enter Try.func67, Try.ntmps67
      go_wp2
      go_ret
      exact ⟨rfl, rfl⟩

set_option maxHeartbeats 400000 in
theorem refRight_any (a : Option Addr) (len cap : Nat) (zs : List Int) (w : World) (h : Nums w a len cap zs) :
    Calls Try.prog 36 #[.slice a len cap] w fun e w' => e = .returned (.bool (rightB zs)) ∧ w' = w := by
  obtain ⟨hl, hcp, hm, hcells, hw⟩ := h
  by_cases h0 : len = 0
  · subst h0
    have e : rightB zs = true := by simp [rightB, hl]
    rw [e]
    go_enter Try.func36, Try.ntmps36
    go_wp2
    go_ret
    exact ⟨rfl, rfl⟩
  · obtain ⟨b, off, rfl, hc⟩ := hcells (by omega)
    have hne : ((len : Int) == 0) = false := by simp; omega
    have hp : (0 : Int) < (len : Int) := by omega
    unfold maxLen at hm
    by_cases h1 : len ≤ 64
    · have hcl := hc (len - 1) (by omega)
      have e : rightB zs = (zs.getD (len - 1) 0 != 0) := by simp [rightB, hl, h1, h0]
      rw [e]
      go_enter Try.func36, Try.ntmps36
      go_wp2
      go_ret
      exact ⟨rfl, rfl⟩
    · have e : rightB zs = false := by simp [rightB, hl, h1]
      rw [e]
      have hd : decide ((len : Int) ≤ 64) = false := by simp; omega
      go_enter Try.func36, Try.ntmps36
      go_wp2
      go_ret
      exact ⟨rfl, rfl⟩

theorem Nums.lit1 (w : World) (x : Int) (hx : 0 ≤ x ∧ x < 18446744073709551616) (t : TypeId) : Nums (w.alloc (.cells #[.int .u64 x] t)) (some ⟨w.heap.size, 0, none⟩) 1 1 [x] := by
  refine ⟨rfl, Nat.le_refl _, by decide, fun _ => ⟨_, _, rfl, fun i hi => ?_⟩, fun y hy => ?_⟩
  · obtain rfl : i = 0 := by omega
    simp
  · simp at hy; subst hy; exact hx
end Go.Proofs.Ytchmlfjjgehbkaa

namespace Go.Proofs.Ytchmlfjjgehbkaa
open Go.RowKit

theorem ret_int {k : IntKind} {a b : Int} (h : a = b) : Ending.returned (.int k a) = .returned (.int k b) := by rw [h]
theorem ret_bool {a b : Bool} (h : a = b) : Ending.returned (.bool a) = .returned (.bool b) := by rw [h]

/-- The list of a small number. -/
def ofZ (n : Int) : List Int := if n = 0 then [] else [n]

set_option maxHeartbeats 400000 in
theorem of_any (n : Int) (w : World) (hn : 0 ≤ n ∧ n < 18446744073709551616) :
    Calls Try.prog 62 #[.int .u64 n] w fun e w' => ∃ a len cap, e = .returned (.slice a len cap) ∧ Nums w' a len cap (ofZ n) ∧ Below w.heap.size w w' := by
  by_cases h0 : n = 0
  · subst h0
    go_enter Try.func62, Try.ntmps62
    go_wp2
    go_ret
    exact ⟨none, 0, 0, rfl, Nums.nil _, Below.refl _ _⟩
  · have hne : (n == 0) = false := by simp [h0]
    go_enter Try.func62, Try.ntmps62
    go_wp2
    go_ret
    exact ⟨_, _, _, rfl, by rw [ofZ, if_neg h0]; exact Nums.lit1 w n hn _, (Below.refl _ _).alloc (Nat.le_refl _) _⟩

set_option maxHeartbeats 400000 in
theorem refOf_any (n : Int) (w : World) (hn : 0 ≤ n ∧ n < 18446744073709551616) :
    Calls Try.prog 33 #[.int .u64 n] w fun e w' => ∃ a len cap, e = .returned (.slice a len cap) ∧ Nums w' a len cap (ofZ n) ∧ Below w.heap.size w w' := by
  by_cases h0 : n = 0
  · subst h0
    go_enter Try.func33, Try.ntmps33
    go_wp2
    go_ret
    exact ⟨none, 0, 0, rfl, Nums.nil _, Below.refl _ _⟩
  · have hne : (n == 0) = false := by simp [h0]
    go_enter Try.func33, Try.ntmps33
    go_wp2
    go_ret
    exact ⟨_, _, _, rfl, by rw [ofZ, if_neg h0]; exact Nums.lit1 w n hn _, (Below.refl _ _).alloc (Nat.le_refl _) _⟩

/-- The limb at a place, 0 outside. -/
def limbZ (zs : List Int) (i : Int) : Int := if i < 0 then 0 else zs.getD i.toNat 0

set_option maxHeartbeats 400000 in
theorem limb_any (a : Option Addr) (len cap : Nat) (zs : List Int) (i : Int) (w : World) (h : Nums w a len cap zs) :
    Calls Try.prog 100 #[.slice a len cap, .int .i64 i] w fun e w' => e = .returned (.int .u64 (limbZ zs i)) ∧ w' = w := by
  obtain ⟨hl, hcp, hm, hcells, hw⟩ := h
  by_cases h0 : i < 0
  · have e : limbZ zs i = 0 := by simp [limbZ, h0]
    rw [e]
    go_enter Try.func100, Try.ntmps100
    go_wp2
    go_ret
    exact ⟨rfl, rfl⟩
  · have hd : decide (i < 0) = false := by simp; omega
    by_cases h1 : (len : Int) ≤ i
    · have e : limbZ zs i = 0 := by
        have : ¬ i.toNat < zs.length := by omega
        simp only [limbZ, h0, if_false, List.getD]; rw [List.getElem?_eq_none (by omega)]; rfl
      rw [e]
      go_enter Try.func100, Try.ntmps100
      go_wp2
      go_ret
      exact ⟨rfl, rfl⟩
    · obtain ⟨b, off, rfl, hc⟩ := hcells (by omega)
      have hlt : i < (len : Int) := by omega
      have hge : 0 ≤ i := by omega
      have hd1 : decide ((len : Int) ≤ i) = false := by simp; omega
      have hcl := hc i.toNat (by omega)
      obtain ⟨x, hx⟩ : ∃ x, x = zs.getD i.toNat 0 := ⟨_, rfl⟩
      rw [← hx] at hcl
      have e : limbZ zs i = x := by simp only [limbZ, h0, if_false]; exact hx.symm
      rw [e]
      clear e hx hc hcells
      go_enter Try.func100, Try.ntmps100
      go_wp2
      go_ret
      exact ⟨rfl, rfl⟩

/-- A number as a small one. -/
def smallZ (zs : List Int) : Int := if rightB zs && decide (zs.length ≤ 1) then zs.getD 0 0 else 0
def smallB (zs : List Int) : Bool := rightB zs && decide (zs.length ≤ 1)

end Go.Proofs.Ytchmlfjjgehbkaa

namespace Go.Proofs.Ytchmlfjjgehbkaa
open Go.RowKit

/-- -1, 0 or 1. -/
def cmpZ (x y : Int) : Int := if x < y then -1 else if y < x then 1 else 0

set_option maxHeartbeats 400000 in
theorem cmpInt_any (x y : Int) (w : World) :
    Calls Try.prog 73 #[.int .i64 x, .int .i64 y] w fun e w' => e = .returned (.int .i64 (cmpZ x y)) ∧ w' = w := by
  by_cases h : x < y
  · have e : cmpZ x y = -1 := by simp [cmpZ, h]
    rw [e]
    go_enter Try.func73, Try.ntmps73
    go_wp2
    go_ret
    exact ⟨rfl, rfl⟩
  · by_cases h' : y < x
    · have e : cmpZ x y = 1 := by simp [cmpZ, h, h']
      rw [e]
      go_enter Try.func73, Try.ntmps73
      go_wp2
      go_ret
      exact ⟨rfl, rfl⟩
    · have e : cmpZ x y = 0 := by simp [cmpZ, h, h']
      rw [e]
      go_enter Try.func73, Try.ntmps73
      go_wp2
      go_ret
      exact ⟨rfl, rfl⟩

set_option maxHeartbeats 400000 in
theorem cmpU64_any (x y : Int) (w : World) :
    Calls Try.prog 74 #[.int .u64 x, .int .u64 y] w fun e w' => e = .returned (.int .i64 (cmpZ x y)) ∧ w' = w := by
  by_cases h : x < y
  · have e : cmpZ x y = -1 := by simp [cmpZ, h]
    rw [e]
    go_enter Try.func74, Try.ntmps74
    go_wp2
    go_ret
    exact ⟨rfl, rfl⟩
  · by_cases h' : y < x
    · have e : cmpZ x y = 1 := by simp [cmpZ, h, h']
      rw [e]
      go_enter Try.func74, Try.ntmps74
      go_wp2
      go_ret
      exact ⟨rfl, rfl⟩
    · have e : cmpZ x y = 0 := by simp [cmpZ, h, h']
      rw [e]
      go_enter Try.func74, Try.ntmps74
      go_wp2
      go_ret
      exact ⟨rfl, rfl⟩

/-- The same limbs? -/
def sameB (zs ys : List Int) : Bool := decide (zs = ys)
theorem sameB_self (zs : List Int) : sameB zs zs = true := by simp [sameB]

theorem sameB_no {zs ys : List Int} {k : Nat} (hne : zs.getD k 0 ≠ ys.getD k 0) : sameB zs ys = false := by
  simp [sameB]; rintro rfl; exact hne rfl
theorem sameB_len {zs ys : List Int} (hne : zs.length ≠ ys.length) : sameB zs ys = false := by
  simp [sameB]; rintro rfl; exact hne rfl
theorem sameB_yes {zs ys : List Int} {k : Nat} (hl : zs.length = ys.length) (hk : zs.length ≤ k) (h : ∀ j, j < k → zs.getD j 0 = ys.getD j 0) : sameB zs ys = true := by
  simp only [sameB, decide_eq_true_eq]
  apply List.ext_getElem hl
  intro i h1 h2
  have := h i (by omega)
  simpa [List.getD, h1, h2] using this

set_option maxHeartbeats 400000 in
theorem same_any (a b : Option Addr) (la ca lb cb : Nat) (zs ys : List Int) (w : World) (h : Nums w a la ca zs) (h' : Nums w b lb cb ys) :
    Calls Try.prog 20 #[.slice a la ca, .slice b lb cb] w fun e w' => e = .returned (.bool (sameB zs ys)) ∧ Below w.heap.size w w' := by
  have hl := h.hlen
  have hl' := h'.hlen
  have hm := h.hmax
  have hcp := h.hcap
  unfold maxLen at hm
  by_cases hlen : la = lb
  · subst hlen
    by_cases h0 : la = 0
    · have e : sameB zs ys = true := by
        have e1 : zs = [] := List.eq_nil_of_length_eq_zero (by omega)
        have e2 : ys = [] := List.eq_nil_of_length_eq_zero (by omega)
        simp [sameB, e1, e2]
      rw [e]
      subst h0
      go_enter Try.func20, Try.ntmps20
      go_wp2
      go_loopw [5] (fun i wr => i = .int .i64 0 ∧ wr = w) (fun _ _ => 0)
      case atStart => exact ⟨rfl, rfl⟩
      case round =>
        obtain ⟨rfl, rfl⟩ := hrel
        go_wp2
        go_ret
        exact ⟨rfl, Below.refl _ _⟩
    · obtain ⟨b1, o1, rfl, hc⟩ := h.cells (by omega)
      obtain ⟨b2, o2, rfl, hc'⟩ := h'.cells (by omega)
      have hlt1 := World.block_lt_of_cell? w _ (hc 0 (by omega))
      have hlt2 := World.block_lt_of_cell? w _ (hc' 0 (by omega))
      have HL : Hid (zs.length = la ∧ ys.length = la) := ⟨hl, hl'⟩
      clear hl hl' h h'
      go_enter Try.func20, Try.ntmps20
      go_wp2
      go_loopw [5] (fun i wr => ∃ k : Nat, k ≤ la ∧ i = .int .i64 k ∧ (∀ j, j < k → zs.getD j 0 = ys.getD j 0) ∧ Below w.heap.size w wr) (fun i _ => la - (intOf i).toNat)
      case atStart => exact ⟨0, Nat.zero_le _, rfl, fun j hj => by omega, Below.refl _ _⟩
      case round =>
        obtain ⟨k, hk, rfl, heq, hb⟩ := hrel
        have HE : Hid (∀ j, j < k → zs.getD j 0 = ys.getD j 0) := heq
        clear heq
        by_cases hlt : k < la
        · obtain ⟨x, hx⟩ : ∃ x, x = zs.getD k 0 := ⟨_, rfl⟩
          obtain ⟨y, hy⟩ : ∃ y, y = ys.getD k 0 := ⟨_, rfl⟩
          have c1 : wr.cell? ⟨b1, o1 + k, none⟩ = some (.int .u64 x) := by rw [hx]; exact (hb.cell (p := ⟨b1, o1 + k, none⟩) hlt1).trans (hc k hlt)
          have c2 : wr.cell? ⟨b2, o2 + k, none⟩ = some (.int .u64 y) := by rw [hy]; exact (hb.cell (p := ⟨b2, o2 + k, none⟩) hlt2).trans (hc' k hlt)
          have HX : Hid (x = zs.getD k 0 ∧ y = ys.getD k 0) := ⟨hx, hy⟩
          clear hx hy
          have hlti : (k : Int) < (la : Int) := by omega
          by_cases hxy : x = y
          · subst hxy
            go_wp2
            go_quiet (fail)
            go_wp2
            go_roundw
            case rel =>
              refine ⟨k + 1, by omega, by go_num, fun j hj => ?_, ?_⟩
              · by_cases hjk : j < k
                · exact HE.out j hjk
                · obtain rfl : j = k := by omega
                  exact HX.out.1.symm.trans HX.out.2
              · exact below_drewN hb _
            case measure => simp [intOf]; omega
          · have hne : (x != y) = true := by simp [hxy]
            go_wp2
            go_quiet (fail)
            go_wp2
            go_ret
            exact ⟨ret_bool (sameB_no (by rw [← HX.out.1, ← HX.out.2]; exact hxy)).symm, below_drewN hb _⟩
        · go_wp2
          go_ret
          exact ⟨ret_bool (sameB_yes (HL.out.1.trans HL.out.2.symm) (by have := HL.out.1; omega) HE.out).symm, hb⟩
  · have e : sameB zs ys = false := sameB_len (by omega)
    rw [e]
    have hne : ((la : Int) != (lb : Int)) = true := by simp; omega
    go_enter Try.func20, Try.ntmps20
    go_wp2
    go_ret
    exact ⟨rfl, Below.refl _ _⟩
end Go.Proofs.Ytchmlfjjgehbkaa

namespace Go.Proofs.Ytchmlfjjgehbkaa
open Go.RowKit

/-- The value of digits of base B, the lowest first. -/
def val (B : Int) : List Int → Int
  | [] => 0
  | x :: r => x + B * val B r

/-- Each is a digit of base B. -/
def Digs (B : Int) (zs : List Int) : Prop := ∀ x, x ∈ zs → 0 ≤ x ∧ x < B

/-- The last one is not 0. -/
def Top (zs : List Int) : Prop := zs = [] ∨ zs.getD (zs.length - 1) 0 ≠ 0

theorem val_nil (B : Int) : val B [] = 0 := rfl
theorem val_cons (B x : Int) (r : List Int) : val B (x :: r) = x + B * val B r := rfl

theorem val_append (B : Int) (xs ys : List Int) : val B (xs ++ ys) = val B xs + B ^ xs.length * val B ys := by
  induction xs with
  | nil => simp [val]
  | cons x r ih =>
    have e : B ^ (r.length + 1) = B * B ^ r.length := by rw [Int.pow_succ, Int.mul_comm]
    simp only [List.cons_append, val, ih, List.length_cons, e, Int.mul_add, Int.mul_assoc]
    omega

theorem val_snoc (B : Int) (xs : List Int) (x : Int) : val B (xs ++ [x]) = val B xs + B ^ xs.length * x := by
  rw [val_append]; simp [val]

theorem take_snoc (zs : List Int) (k : Nat) (h : k < zs.length) : zs.take (k + 1) = zs.take k ++ [zs.getD k 0] := by
  rw [List.take_succ_eq_append_getElem h]; simp [List.getD, h]

theorem val_take_succ (B : Int) (zs : List Int) (k : Nat) (h : k < zs.length) : val B (zs.take (k + 1)) = val B (zs.take k) + B ^ k * zs.getD k 0 := by
  rw [take_snoc zs k h, val_snoc]; simp [Nat.min_eq_left (Nat.le_of_lt h)]

theorem pow_pos' {B : Int} (hB : 0 < B) (k : Nat) : 0 < B ^ k := by
  induction k with
  | zero => simp
  | succ k ih => rw [Int.pow_succ]; exact Int.mul_pos ih hB

theorem pow_mono {B : Int} (hB : 0 < B) {i j : Nat} (h : i ≤ j) : B ^ i ≤ B ^ j := by
  induction j with
  | zero => obtain rfl : i = 0 := by omega
            exact Int.le_refl _
  | succ j ih =>
    by_cases e : i = j + 1
    · subst e; exact Int.le_refl _
    · have h1 := ih (by omega)
      have h2 := pow_pos' hB j
      have h3 : B ^ j * 1 ≤ B ^ j * B := Int.mul_le_mul_of_nonneg_left (by omega) (by omega)
      rw [Int.pow_succ]; omega

theorem val_nonneg {B : Int} (hB : 0 < B) {zs : List Int} (h : Digs B zs) : 0 ≤ val B zs := by
  induction zs with
  | nil => simp [val]
  | cons x r ih =>
    have h1 := h x (List.mem_cons_self ..)
    have h2 := ih (fun y hy => h y (List.mem_cons_of_mem _ hy))
    have h3 : 0 ≤ B * val B r := Int.mul_nonneg (by omega) h2
    simp only [val]; omega

theorem val_lt {B : Int} (hB : 0 < B) {zs : List Int} (h : Digs B zs) : val B zs < B ^ zs.length := by
  induction zs with
  | nil => simp [val]
  | cons x r ih =>
    have h1 := h x (List.mem_cons_self ..)
    have h2 := ih (fun y hy => h y (List.mem_cons_of_mem _ hy))
    have h3 : B * (val B r + 1) ≤ B * B ^ r.length := Int.mul_le_mul_of_nonneg_left (by omega) (by omega)
    simp only [val, List.length_cons, Int.pow_succ]
    rw [Int.mul_comm (B ^ r.length) B]
    rw [Int.mul_add] at h3
    omega

theorem Digs.take {B : Int} {zs : List Int} (h : Digs B zs) (k : Nat) : Digs B (zs.take k) := fun x hx => h x (List.mem_of_mem_take hx)
theorem Digs.drop {B : Int} {zs : List Int} (h : Digs B zs) (k : Nat) : Digs B (zs.drop k) := fun x hx => h x (List.mem_of_mem_drop hx)
theorem Digs.snoc {B : Int} {zs : List Int} (h : Digs B zs) {x : Int} (hx : 0 ≤ x ∧ x < B) : Digs B (zs ++ [x]) := by
  intro y hy
  rcases List.mem_append.1 hy with hy | hy
  · exact h y hy
  · simp at hy; subst hy; exact hx
theorem Digs.nil (B : Int) : Digs B [] := fun x hx => by cases hx
theorem Digs.getD {B : Int} (hB : 0 < B) {zs : List Int} (h : Digs B zs) (k : Nat) : 0 ≤ zs.getD k 0 ∧ zs.getD k 0 < B := by
  by_cases hk : k < zs.length
  · have : zs.getD k 0 = zs[k] := by simp [List.getD, hk]
    rw [this]; exact h _ (List.getElem_mem hk)
  · have : zs.getD k 0 = 0 := by simp [List.getD, List.getElem?_eq_none (Nat.le_of_not_lt hk)]
    rw [this]; exact ⟨Int.le_refl _, hB⟩

theorem val_ge {B : Int} (hB : 0 < B) {zs : List Int} (h : Digs B zs) (ht : Top zs) (hn : zs ≠ []) : B ^ (zs.length - 1) ≤ val B zs := by
  have hl : 0 < zs.length := by cases zs <;> simp_all
  rcases ht with rfl | ht
  · exact absurd rfl hn
  have h1 := val_take_succ B zs (zs.length - 1) (by omega)
  rw [show zs.length - 1 + 1 = zs.length by omega, List.take_length] at h1
  have h2 := val_nonneg hB (h.take (zs.length - 1))
  have h3 := h.getD hB (zs.length - 1)
  have h4 := pow_pos' hB (zs.length - 1)
  have h5 : B ^ (zs.length - 1) * 1 ≤ B ^ (zs.length - 1) * zs.getD (zs.length - 1) 0 := Int.mul_le_mul_of_nonneg_left (by omega) (by omega)
  omega

theorem val_inj_len {B : Int} (hB : 0 < B) : ∀ {zs ys : List Int}, zs.length = ys.length → Digs B zs → Digs B ys → val B zs = val B ys → zs = ys
  | [], [], _, _, _, _ => rfl
  | [], _ :: _, h, _, _, _ => by simp at h
  | _ :: _, [], h, _, _, _ => by simp at h
  | x :: r, y :: s, h, hz, hy, hv => by
    have h1 := hz x (List.mem_cons_self ..)
    have h2 := hy y (List.mem_cons_self ..)
    simp only [val] at hv
    have e : x = y := by
      have a1 : (x + B * val B r) % B = x := by rw [Int.add_mul_emod_self_left]; exact Int.emod_eq_of_lt h1.1 h1.2
      have a2 : (y + B * val B s) % B = y := by rw [Int.add_mul_emod_self_left]; exact Int.emod_eq_of_lt h2.1 h2.2
      rw [← a1, ← a2, hv]
    subst e
    have e2 : val B r = val B s := Int.eq_of_mul_eq_mul_left (a := B) (by omega) (by omega)
    rw [val_inj_len hB (by simpa using h) (fun y hy => hz y (List.mem_cons_of_mem _ hy)) (fun z hz' => hy z (List.mem_cons_of_mem _ hz')) e2]

theorem val_lt_of_len {B : Int} (hB : 0 < B) {zs ys : List Int} (hz : Digs B zs) (hy : Digs B ys) (ty : Top ys) (h : zs.length < ys.length) : val B zs < val B ys := by
  have h1 := val_lt hB hz
  have h2 := val_ge hB hy ty (by intro e; subst e; simp at h)
  have h3 := pow_mono hB (show zs.length ≤ ys.length - 1 by omega)
  omega

theorem val_inj {B : Int} (hB : 0 < B) {zs ys : List Int} (hz : Digs B zs) (hy : Digs B ys) (tz : Top zs) (ty : Top ys) (h : val B zs = val B ys) : zs = ys := by
  by_cases e : zs.length = ys.length
  · exact val_inj_len hB e hz hy h
  · rcases Nat.lt_or_gt_of_ne e with l | l
    · have := val_lt_of_len hB hz hy ty l; omega
    · have := val_lt_of_len hB hy hz tz l; omega

theorem len_le {B : Int} (hB : 0 < B) {zs : List Int} (hz : Digs B zs) (tz : Top zs) {k : Nat} (h : val B zs < B ^ k) : zs.length ≤ k := by
  by_cases hk : zs.length ≤ k
  · exact hk
  · have h2 := val_ge hB hz tz (by intro e; subst e; simp at hk)
    have h3 := pow_mono hB (show k ≤ zs.length - 1 by omega)
    omega
theorem val_lt_pow {B : Int} (hB : 0 < B) {zs : List Int} (hz : Digs B zs) {k : Nat} (h : zs.length ≤ k) : val B zs < B ^ k := by
  have h1 := val_lt hB hz
  have h3 := pow_mono hB h
  omega

theorem drop_eq_of {zs ys : List Int} {i : Nat} (hl : zs.length = ys.length) (h : ∀ j, i ≤ j → j < zs.length → zs.getD j 0 = ys.getD j 0) : zs.drop i = ys.drop i := by
  apply List.ext_getElem
  · simp [hl]
  · intro k h1 h2
    simp only [List.length_drop] at h1 h2
    have := h (i + k) (by omega) (by omega)
    simpa [List.getD, show i + k < zs.length by omega, show i + k < ys.length by omega] using this

theorem val_split (B : Int) (zs : List Int) (k : Nat) (h : k ≤ zs.length) : val B zs = val B (zs.take k) + B ^ k * val B (zs.drop k) := by
  have e : val B zs = val B (zs.take k ++ zs.drop k) := by rw [List.take_append_drop]
  rw [e, val_append, List.length_take, Nat.min_eq_left h]

theorem cmp_at {B : Int} (hB : 0 < B) {zs ys : List Int} {i : Nat} (hl : zs.length = ys.length) (hz : Digs B zs) (hy : Digs B ys) (hi : i < zs.length)
    (h : ∀ j, i < j → j < zs.length → zs.getD j 0 = ys.getD j 0) (hlt : zs.getD i 0 < ys.getD i 0) : val B zs < val B ys := by
  have e1 := val_split B zs (i + 1) (by omega)
  have e2 := val_split B ys (i + 1) (by omega)
  have e3 := val_take_succ B zs i hi
  have e4 := val_take_succ B ys i (by omega)
  have e5 := drop_eq_of (i := i + 1) hl (fun j h1 h2 => h j (by omega) h2)
  rw [e5] at e1
  have b1 := val_lt hB (hz.take i)
  have b2 := val_nonneg hB (hy.take i)
  rw [List.length_take, Nat.min_eq_left (by omega)] at b1
  have b3 : B ^ i * (zs.getD i 0 + 1) ≤ B ^ i * ys.getD i 0 := Int.mul_le_mul_of_nonneg_left (by omega) (by have := pow_pos' hB i; omega)
  rw [Int.mul_add] at b3
  omega

theorem val_zeros (B : Int) {zs : List Int} (h : ∀ x, x ∈ zs → x = 0) : val B zs = 0 := by
  induction zs with
  | nil => rfl
  | cons x r ih =>
    have h1 := h x (List.mem_cons_self ..)
    have h2 := ih (fun y hy => h y (List.mem_cons_of_mem _ hy))
    simp [val, h1, h2]

/-- k is where the noughts behind begin. -/
structure Trim (zs : List Int) (k : Nat) : Prop where
  le : k ≤ zs.length
  zero : ∀ j, k ≤ j → j < zs.length → zs.getD j 0 = 0
  top : k = 0 ∨ zs.getD (k - 1) 0 ≠ 0

theorem Trim.val {B : Int} {zs : List Int} {k : Nat} (h : Trim zs k) : val B (zs.take k) = val B zs := by
  rw [val_split B zs k h.le, val_zeros B (zs := zs.drop k)]
  · omega
  · intro x hx
    obtain ⟨i, hi, rfl⟩ := List.getElem_of_mem hx
    simp only [List.length_drop] at hi
    have := h.zero (k + i) (by omega) (by omega)
    simpa [List.getD, show k + i < zs.length by omega] using this
theorem Trim.Top {zs : List Int} {k : Nat} (h : Trim zs k) : Top (zs.take k) := by
  rcases h.top with rfl | ht
  · left; simp
  · by_cases hk : k = 0
    · subst hk; left; simp
    · right
      have hle := h.le
      rw [List.length_take, Nat.min_eq_left hle]
      simpa [List.getD, List.getElem?_take, show k - 1 < k by omega] using ht
end Go.Proofs.Ytchmlfjjgehbkaa

namespace Go.Proofs.Ytchmlfjjgehbkaa
open Go.RowKit

theorem Nums.take {w : World} {a : Option Addr} {len cap : Nat} {zs : List Int} (h : Nums w a len cap zs) {k : Nat} (hk : k ≤ len) : Nums w a k cap (zs.take k) := by
  have hl := h.hlen
  refine ⟨by simp; omega, Nat.le_trans hk h.hcap, h.hmax, fun hp => ?_, fun x hx => h.word x (List.mem_of_mem_take hx)⟩
  obtain ⟨b, off, ha, hc⟩ := h.cells (by omega)
  refine ⟨b, off, ha, fun i hi => ?_⟩
  rw [hc i (by omega)]
  simp [List.getD, hi]

theorem Nums.digs {w : World} {a : Option Addr} {len cap : Nat} {zs : List Int} (h : Nums w a len cap zs) : Digs 18446744073709551616 zs := h.word

set_option maxHeartbeats 400000 in
theorem cut_any (a : Option Addr) (len cap : Nat) (zs : List Int) (w : World) (h : Nums w a len cap zs) :
    Calls Try.prog 70 #[.slice a len cap] w fun e w' => ∃ k, e = .returned (.slice a k cap) ∧ Trim zs k ∧ w' = w := by
  have hl := h.hlen
  have hm := h.hmax
  have hcp := h.hcap
  unfold maxLen at hm
  by_cases h0 : len = 0
  · subst h0
    have ht : Trim zs 0 := ⟨Nat.zero_le _, fun j _ hj => by omega, .inl rfl⟩
    cases a with
    | none =>
      go_enter Try.func70, Try.ntmps70
      go_wp2
      go_loopw [3] (fun i wr => i = .int .i64 0 ∧ wr = w) (fun _ _ => 0)
      case atStart => exact ⟨rfl, rfl⟩
      case round =>
        obtain ⟨rfl, rfl⟩ := hrel
        go_wp2
        go_ret
        exact ⟨0, rfl, ht, rfl⟩
    | some x =>
      go_enter Try.func70, Try.ntmps70
      go_wp2
      go_loopw [3] (fun i wr => i = .int .i64 0 ∧ wr = w) (fun _ _ => 0)
      case atStart => exact ⟨rfl, rfl⟩
      case round =>
        obtain ⟨rfl, rfl⟩ := hrel
        go_wp2
        go_ret
        exact ⟨0, rfl, ht, rfl⟩
  · obtain ⟨b, off, rfl, hc⟩ := h.cells (by omega)
    clear h
    go_enter Try.func70, Try.ntmps70
    go_wp2
    go_loopw [3] (fun i wr => ∃ k : Nat, k ≤ len ∧ i = .int .i64 k ∧ (∀ j, k ≤ j → j < len → zs.getD j 0 = 0) ∧ wr = w) (fun i _ => (intOf i).toNat)
    case atStart => exact ⟨len, Nat.le_refl _, rfl, fun j h1 h2 => by omega, rfl⟩
    case round =>
      obtain ⟨k, hk, rfl, heq, rfl⟩ := hrel
      have HE : Hid (∀ j, k ≤ j → j < len → zs.getD j 0 = 0) := heq
      have HL : Hid (zs.length = len) := hl
      clear heq
      by_cases hk0 : k = 0
      · subst hk0
        go_wp2
        go_ret
        exact ⟨0, rfl, ⟨Nat.zero_le _, fun j h1 h2 => HE.out j h1 (by have := HL.out; omega), .inl rfl⟩, rfl⟩
      · have hp : (0 : Int) < (k : Int) := by omega
        have hlt : ((k : Int) - 1) < (len : Int) := by omega
        have hge : 0 ≤ ((k : Int) - 1) := by omega
        obtain ⟨x, hx⟩ : ∃ x, x = zs.getD (k - 1) 0 := ⟨_, rfl⟩
        have c1 : wr.cell? ⟨b, off + (k - 1), none⟩ = some (.int .u64 x) := by rw [hx]; exact hc (k - 1) (by omega)
        have HX : Hid (x = zs.getD (k - 1) 0) := hx
        clear hx hl
        by_cases hx0 : x = 0
        · subst hx0
          go_wp2
          go_roundw
          case rel =>
            refine ⟨k - 1, by omega, by go_num, fun j h1 h2 => ?_, by first | rfl | trivial⟩
            by_cases hj : k ≤ j
            · exact HE.out j hj h2
            · obtain rfl : j = k - 1 := by omega
              exact HX.out.symm
          case measure => simp [intOf]; omega
        · have hne : (x == 0) = false := by simp [hx0]
          go_wp2
          go_ret
          exact ⟨k, rfl, ⟨by have := HL.out; omega, fun j h1 h2 => HE.out j h1 (by have := HL.out; omega), .inr (by rw [← HX.out]; exact hx0)⟩, rfl⟩
set_option maxHeartbeats 400000 in
theorem trimmed_any (a : Option Addr) (len cap : Nat) (zs : List Int) (w : World) (h : Nums w a len cap zs) :
    Calls Try.prog 80 #[.slice a len cap] w fun e w' => ∃ a' k cap', e = .returned (.slice a' k cap') ∧ Trim zs k ∧ (k = 0 ∧ a' = none ∧ cap' = 0 ∨ 0 < k ∧ a' = a ∧ cap' = cap) ∧ w' = w := by
  have hl := h.hlen
  have hm := h.hmax
  have hcp := h.hcap
  unfold maxLen at hm
  by_cases h0 : len = 0
  · subst h0
    have ht : Trim zs 0 := ⟨Nat.zero_le _, fun j _ hj => by omega, .inl rfl⟩
    cases a with
    | none =>
      go_enter Try.func80, Try.ntmps80
      go_wp2
      go_loopw [3] (fun i wr => i = .int .i64 0 ∧ wr = w) (fun _ _ => 0)
      case atStart => exact ⟨rfl, rfl⟩
      case round =>
        obtain ⟨rfl, rfl⟩ := hrel
        go_wp2
        go_ret
        exact ⟨none, 0, 0, rfl, ht, .inl ⟨rfl, rfl, rfl⟩, rfl⟩
    | some x =>
      go_enter Try.func80, Try.ntmps80
      go_wp2
      go_loopw [3] (fun i wr => i = .int .i64 0 ∧ wr = w) (fun _ _ => 0)
      case atStart => exact ⟨rfl, rfl⟩
      case round =>
        obtain ⟨rfl, rfl⟩ := hrel
        go_wp2
        go_ret
        exact ⟨none, 0, 0, rfl, ht, .inl ⟨rfl, rfl, rfl⟩, rfl⟩
  · obtain ⟨b, off, rfl, hc⟩ := h.cells (by omega)
    clear h
    go_enter Try.func80, Try.ntmps80
    go_wp2
    go_loopw [3] (fun i wr => ∃ k : Nat, k ≤ len ∧ i = .int .i64 k ∧ (∀ j, k ≤ j → j < len → zs.getD j 0 = 0) ∧ wr = w) (fun i _ => (intOf i).toNat)
    case atStart => exact ⟨len, Nat.le_refl _, rfl, fun j h1 h2 => by omega, rfl⟩
    case round =>
      obtain ⟨k, hk, rfl, heq, rfl⟩ := hrel
      have HE : Hid (∀ j, k ≤ j → j < len → zs.getD j 0 = 0) := heq
      have HL : Hid (zs.length = len) := hl
      clear heq
      by_cases hk0 : k = 0
      · subst hk0
        go_wp2
        go_ret
        exact ⟨none, 0, 0, rfl, ⟨Nat.zero_le _, fun j h1 h2 => HE.out j h1 (by have := HL.out; omega), .inl rfl⟩, .inl ⟨rfl, rfl, rfl⟩, rfl⟩
      · have hp : (0 : Int) < (k : Int) := by omega
        have hlt : ((k : Int) - 1) < (len : Int) := by omega
        have hge : 0 ≤ ((k : Int) - 1) := by omega
        obtain ⟨x, hx⟩ : ∃ x, x = zs.getD (k - 1) 0 := ⟨_, rfl⟩
        have c1 : wr.cell? ⟨b, off + (k - 1), none⟩ = some (.int .u64 x) := by rw [hx]; exact hc (k - 1) (by omega)
        have HX : Hid (x = zs.getD (k - 1) 0) := hx
        clear hx hl
        by_cases hx0 : x = 0
        · subst hx0
          go_wp2
          go_roundw
          case rel =>
            refine ⟨k - 1, by omega, by go_num, fun j h1 h2 => ?_, by first | rfl | trivial⟩
            by_cases hj : k ≤ j
            · exact HE.out j hj h2
            · obtain rfl : j = k - 1 := by omega
              exact HX.out.symm
          case measure => simp [intOf]; omega
        · have hne : (x == 0) = false := by simp [hx0]
          have hkne : ((k : Int) == 0) = false := by simp; omega
          go_wp2
          go_ret
          exact ⟨_, k, cap, rfl, ⟨by have := HL.out; omega, fun j h1 h2 => HE.out j h1 (by have := HL.out; omega), .inr (by rw [← HX.out]; exact hx0)⟩, .inr ⟨by omega, rfl, rfl⟩, rfl⟩
end Go.Proofs.Ytchmlfjjgehbkaa

namespace Go.Proofs.Ytchmlfjjgehbkaa
open Go.RowKit

theorem cmpZ_lt {x y : Int} (h : x < y) : cmpZ x y = -1 := by simp [cmpZ, h]
theorem cmpZ_gt {x y : Int} (h : y < x) : cmpZ x y = 1 := by simp [cmpZ, h, show ¬ x < y by omega]
theorem cmpZ_eq (x : Int) : cmpZ x x = 0 := by simp [cmpZ]

theorem eq_of_all {zs ys : List Int} (hl : zs.length = ys.length) (h : ∀ j, 0 ≤ j → j < zs.length → zs.getD j 0 = ys.getD j 0) : zs = ys := by
  have := drop_eq_of (i := 0) hl h
  simpa using this

set_option maxHeartbeats 800000 in
theorem compare_any (B : Int) (hB : 0 < B) (a b : Option Addr) (la ca lb cb : Nat) (zs ys : List Int) (w : World) (h : Nums w a la ca zs) (h' : Nums w b lb cb ys)
    (dz : Digs B zs) (dy : Digs B ys) (tz : Top zs) (ty : Top ys) :
    Calls Try.prog 71 #[.slice a la ca, .slice b lb cb] w fun e w' => e = .returned (.int .i64 (cmpZ (val B zs) (val B ys))) ∧ Below w.heap.size w w' := by
  have hl := h.hlen
  have hl' := h'.hlen
  have hm := h.hmax
  have hcp := h.hcap
  unfold maxLen at hm
  by_cases hlen : la = lb
  · subst hlen
    have HL : Hid (zs.length = la ∧ ys.length = la) := ⟨hl, hl'⟩
    have hne : ((la : Int) != (la : Int)) = false := by simp
    by_cases h0 : la = 0
    · have e : cmpZ (val B zs) (val B ys) = 0 := by
        have e1 : zs = [] := List.eq_nil_of_length_eq_zero (by omega)
        have e2 : ys = [] := List.eq_nil_of_length_eq_zero (by omega)
        rw [e1, e2]; exact cmpZ_eq _
      rw [e]
      subst h0
      go_enter Try.func71, Try.ntmps71
      go_wp2
      go_loopw [5] (fun i wr => i = .int .i64 (-1) ∧ wr = w) (fun _ _ => 0)
      case atStart => exact ⟨rfl, rfl⟩
      case round =>
        obtain ⟨rfl, rfl⟩ := hrel
        go_wp2
        go_ret
        exact ⟨rfl, Below.refl _ _⟩
    · obtain ⟨b1, o1, rfl, hc⟩ := h.cells (by omega)
      obtain ⟨b2, o2, rfl, hc'⟩ := h'.cells (by omega)
      have hlt1 := World.block_lt_of_cell? w _ (hc 0 (by omega))
      have hlt2 := World.block_lt_of_cell? w _ (hc' 0 (by omega))
      clear hl hl' h h'
      go_enter Try.func71, Try.ntmps71
      go_wp2
      go_loopw [5] (fun i wr => ∃ k : Nat, k ≤ la ∧ i = .int .i64 ((k : Int) - 1) ∧ (∀ j, k ≤ j → j < la → zs.getD j 0 = ys.getD j 0) ∧ Below w.heap.size w wr) (fun i _ => (intOf i + 1).toNat)
      case atStart => exact ⟨la, Nat.le_refl _, rfl, fun j h1 h2 => by omega, Below.refl _ _⟩
      case round =>
        obtain ⟨k, hk, rfl, heq, hb⟩ := hrel
        have HE : Hid (∀ j, k ≤ j → j < la → zs.getD j 0 = ys.getD j 0) := heq
        clear heq
        by_cases hk0 : k = 0
        · subst hk0
          go_wp2
          go_ret
          refine ⟨ret_int ?_, hb⟩
          rw [eq_of_all (HL.out.1.trans HL.out.2.symm) (fun j h1 h2 => HE.out j h1 (by have := HL.out.1; omega)), cmpZ_eq]
        · have hge : 0 ≤ ((k : Int) - 1) := by omega
          have hlti : ((k : Int) - 1) < (la : Int) := by omega
          obtain ⟨x, hx⟩ : ∃ x, x = zs.getD (k - 1) 0 := ⟨_, rfl⟩
          obtain ⟨y, hy⟩ : ∃ y, y = ys.getD (k - 1) 0 := ⟨_, rfl⟩
          have c1 : wr.cell? ⟨b1, o1 + (k - 1), none⟩ = some (.int .u64 x) := by rw [hx]; exact (hb.cell (p := ⟨b1, o1 + (k - 1), none⟩) hlt1).trans (hc (k - 1) (by omega))
          have c2 : wr.cell? ⟨b2, o2 + (k - 1), none⟩ = some (.int .u64 y) := by rw [hy]; exact (hb.cell (p := ⟨b2, o2 + (k - 1), none⟩) hlt2).trans (hc' (k - 1) (by omega))
          have HX : Hid (x = zs.getD (k - 1) 0 ∧ y = ys.getD (k - 1) 0) := ⟨hx, hy⟩
          clear hx hy
          have hup : ∀ j, k - 1 < j → j < zs.length → zs.getD j 0 = ys.getD j 0 := fun j h1 h2 => HE.out j (by omega) (by have := HL.out.1; omega)
          have HU : Hid (∀ j, k - 1 < j → j < zs.length → zs.getD j 0 = ys.getD j 0) := hup
          clear hup
          by_cases hxy : x < y
          · go_wp2
            go_quiet (fail)
            go_wp2
            go_ret
            refine ⟨ret_int (cmpZ_lt ?_).symm, below_drewN hb _⟩
            exact cmp_at hB (HL.out.1.trans HL.out.2.symm) dz dy (by have := HL.out.1; omega) HU.out (by rw [← HX.out.1, ← HX.out.2]; exact hxy)
          · by_cases hyx : y < x
            · go_wp2
              go_quiet (fail)
              go_wp2
              go_quiet (fail)
              go_wp2
              go_ret
              refine ⟨ret_int (cmpZ_gt ?_).symm, below_drewN (below_drewN hb _) _⟩
              exact cmp_at hB (HL.out.2.trans HL.out.1.symm) dy dz (by have := HL.out.2; omega) (fun j h1 h2 => (HU.out j h1 (by have := HL.out; omega)).symm) (by rw [← HX.out.1, ← HX.out.2]; exact hyx)
            · obtain rfl : x = y := by omega
              go_wp2
              go_quiet (fail)
              go_wp2
              go_quiet (fail)
              go_wp2
              go_roundw
              case rel =>
                refine ⟨k - 1, by omega, by go_num, fun j h1 h2 => ?_, below_drewN hb _⟩
                by_cases hj : k ≤ j
                · exact HE.out j hj h2
                · obtain rfl : j = k - 1 := by omega
                  exact HX.out.1.symm.trans HX.out.2
              case measure => simp [intOf]; omega
  · have hne : ((la : Int) != (lb : Int)) = true := by simp; omega
    by_cases hlt : la < lb
    · rw [cmpZ_lt (val_lt_of_len hB dz dy ty (by omega))]
      go_enter Try.func71, Try.ntmps71
      go_wp2
      go_ret
      exact ⟨rfl, Below.refl _ _⟩
    · rw [cmpZ_gt (val_lt_of_len hB dy dz tz (by omega))]
      have hd : decide ((la : Int) < (lb : Int)) = false := by simp; omega
      go_enter Try.func71, Try.ntmps71
      go_wp2
      go_ret
      exact ⟨rfl, Below.refl _ _⟩

/-- What nat.Cmp tells. -/
def cmpN (zs ys : List Int) : Int := if rightB zs && rightB ys then cmpZ (val 18446744073709551616 zs) (val 18446744073709551616 ys) else 0

theorem right_top {zs : List Int} (h : rightB zs = true) : Top zs := by
  simp [rightB] at h
  rcases h.2 with h | h
  · exact .inl h
  · exact .inr (by simpa [List.getD] using h)
theorem right_len {zs : List Int} (h : rightB zs = true) : zs.length ≤ 64 := by
  simp [rightB] at h
  exact h.1
theorem right_mk {zs : List Int} (h : zs.length ≤ 64) (ht : Top zs) : rightB zs = true := by
  rcases ht with rfl | ht
  · rfl
  · simp [rightB, h]
    right; simpa [List.getD] using ht

set_option maxHeartbeats 800000 in
theorem cmp_any (a b : Option Addr) (la ca lb cb : Nat) (zs ys : List Int) (w : World) (h : Nums w a la ca zs) (h' : Nums w b lb cb ys) :
    Calls Try.prog 60 #[.slice a la ca, .slice b lb cb] w fun e w' => e = .returned (.int .i64 (cmpN zs ys)) ∧ Below w.heap.size w w' := by
  cases hr : rightB zs with
  | false =>
    have e1 : cmpN zs ys = 0 := by simp [cmpN, hr]
    rw [e1]
    go_enter Try.func60, Try.ntmps60
    go_wp2_with fail
    refine (right_any _ _ _ _ _ h).mono ?_
    rintro e w' ⟨rfl, rfl⟩
    go_wp2_with fail
    go_ret
    exact ⟨rfl, Below.refl _ _⟩
  | true =>
  cases hr' : rightB ys with
  | false =>
    have e1 : cmpN zs ys = 0 := by simp [cmpN, hr']
    rw [e1]
    go_enter Try.func60, Try.ntmps60
    go_wp2_with fail
    refine (right_any _ _ _ _ _ h).mono ?_
    rintro e w' ⟨rfl, rfl⟩
    go_wp2_with fail
    refine (right_any _ _ _ _ _ h').mono ?_
    rintro e w' ⟨rfl, rfl⟩
    go_wp2_with fail
    go_ret
    exact ⟨rfl, Below.refl _ _⟩
  | true =>
  have e1 : cmpN zs ys = cmpZ (val 18446744073709551616 zs) (val 18446744073709551616 ys) := by simp [cmpN, hr, hr']
  rw [e1]
  clear e1
  have hB : (0 : Int) < 18446744073709551616 := by decide
  have dz := h.digs
  have dy := h'.digs
  generalize (18446744073709551616 : Int) = B at hB dz dy ⊢
  have tz := right_top hr
  have ty := right_top hr'
  have hl := h.hlen
  have hl' := h'.hlen
  have hm := h.hmax
  have hcp := h.hcap
  unfold maxLen at hm
  by_cases hlen : la = lb
  · subst hlen
    have HL : Hid (zs.length = la ∧ ys.length = la) := ⟨hl, hl'⟩
    have hne : ((la : Int) != (la : Int)) = false := by simp
    by_cases h0 : la = 0
    · have e : cmpZ (val B zs) (val B ys) = 0 := by
        have e1 : zs = [] := List.eq_nil_of_length_eq_zero (by omega)
        have e2 : ys = [] := List.eq_nil_of_length_eq_zero (by omega)
        rw [e1, e2]; exact cmpZ_eq _
      rw [e]
      subst h0
      go_enter Try.func60, Try.ntmps60
      go_wp2_with fail
      refine (right_any _ _ _ _ _ h).mono ?_
      rintro e w' ⟨rfl, rfl⟩
      go_wp2_with fail
      refine (right_any _ _ _ _ _ h').mono ?_
      rintro e w' ⟨rfl, rfl⟩
      go_wp2_with fail
      go_loopw [27] (fun i wr => i = .int .i64 0 ∧ wr = w') (fun _ _ => 0)
      case atStart => exact ⟨rfl, rfl⟩
      case round =>
        obtain ⟨rfl, rfl⟩ := hrel
        go_wp2
        go_ret
        exact ⟨rfl, Below.refl _ _⟩
    · obtain ⟨b1, o1, rfl, hc⟩ := h.cells (by omega)
      obtain ⟨b2, o2, rfl, hc'⟩ := h'.cells (by omega)
      have hlt1 := World.block_lt_of_cell? w _ (hc 0 (by omega))
      have hlt2 := World.block_lt_of_cell? w _ (hc' 0 (by omega))
      clear hl hl'
      go_enter Try.func60, Try.ntmps60
      go_wp2_with fail
      refine (right_any _ _ _ _ _ h).mono ?_
      rintro e w1 ⟨rfl, rfl⟩
      go_wp2_with fail
      refine (right_any _ _ _ _ _ h').mono ?_
      rintro e w2 ⟨rfl, rfl⟩
      go_wp2_with fail
      clear h h'
      go_loopw [27] (fun i wr => ∃ k : Nat, k ≤ la ∧ i = .int .i64 (k : Int) ∧ (∀ j, la - k ≤ j → j < la → zs.getD j 0 = ys.getD j 0) ∧ Below w2.heap.size w2 wr) (fun i _ => la - (intOf i).toNat)
      case atStart => exact ⟨0, Nat.zero_le _, rfl, fun j h1 h2 => by omega, Below.refl _ _⟩
      case round =>
        obtain ⟨k, hk, rfl, heq, hb⟩ := hrel
        have HE : Hid (∀ j, la - k ≤ j → j < la → zs.getD j 0 = ys.getD j 0) := heq
        clear heq
        by_cases hk0 : k = la
        · subst hk0
          go_wp2
          go_ret
          refine ⟨ret_int ?_, hb⟩
          rw [eq_of_all (HL.out.1.trans HL.out.2.symm) (fun j h1 h2 => HE.out j (by omega) (by have := HL.out.1; omega)), cmpZ_eq]
        · have hlk : (k : Int) < (la : Int) := by omega
          have hge : 0 ≤ ((la : Int) - 1 - k) := by omega
          have hlti : ((la : Int) - 1 - k) < (la : Int) := by omega
          obtain ⟨x, hx⟩ : ∃ x, x = zs.getD (la - 1 - k) 0 := ⟨_, rfl⟩
          obtain ⟨y, hy⟩ : ∃ y, y = ys.getD (la - 1 - k) 0 := ⟨_, rfl⟩
          have c1 : wr.cell? ⟨b1, o1 + (la - 1 - k), none⟩ = some (.int .u64 x) := by rw [hx]; exact (hb.cell (p := ⟨b1, o1 + (la - 1 - k), none⟩) hlt1).trans (hc (la - 1 - k) (by omega))
          have c2 : wr.cell? ⟨b2, o2 + (la - 1 - k), none⟩ = some (.int .u64 y) := by rw [hy]; exact (hb.cell (p := ⟨b2, o2 + (la - 1 - k), none⟩) hlt2).trans (hc' (la - 1 - k) (by omega))
          have HX : Hid (x = zs.getD (la - 1 - k) 0 ∧ y = ys.getD (la - 1 - k) 0) := ⟨hx, hy⟩
          clear hx hy
          have hup : ∀ j, la - 1 - k < j → j < zs.length → zs.getD j 0 = ys.getD j 0 := fun j h1 h2 => HE.out j (by omega) (by have := HL.out.1; omega)
          have HU : Hid (∀ j, la - 1 - k < j → j < zs.length → zs.getD j 0 = ys.getD j 0) := hup
          clear hup
          by_cases hxy : x = y
          · subst hxy
            go_wp2
            go_quiet (fail)
            go_wp2
            go_roundw
            case rel =>
              refine ⟨k + 1, by omega, by go_num, fun j h1 h2 => ?_, below_drewN hb _⟩
              by_cases hj : la - k ≤ j
              · exact HE.out j hj h2
              · obtain rfl : j = la - 1 - k := by omega
                exact HX.out.1.symm.trans HX.out.2
            case measure => simp [intOf]; omega
          · have hnxy : (x != y) = true := by simp [hxy]
            go_wp2
            go_quiet (fail)
            go_wp2
            have hb3 := below_drewN hb nq
            have d1 : (wr.drewN nq).cell? ⟨b1, o1 + (la - 1 - k), none⟩ = some (.int .u64 x) := c1
            have d2 : (wr.drewN nq).cell? ⟨b2, o2 + (la - 1 - k), none⟩ = some (.int .u64 y) := c2
            generalize wr.drewN nq = w3 at hb3 d1 d2 ⊢
            clear c1 c2 hb
            go_quiet ((go_at_call 74; exact Calls.quiet_of_same (cmpU64_any _ _ _)))
            go_wp2
            go_ret
            refine ⟨ret_int ?_, below_drewN hb3 _⟩
            by_cases hlt : x < y
            · rw [cmpZ_lt hlt, cmpZ_lt]
              exact cmp_at hB (HL.out.1.trans HL.out.2.symm) dz dy (by have := HL.out.1; omega) HU.out (by rw [← HX.out.1, ← HX.out.2]; exact hlt)
            · have hgt : y < x := by omega
              rw [cmpZ_gt hgt, cmpZ_gt]
              exact cmp_at hB (HL.out.2.trans HL.out.1.symm) dy dz (by have := HL.out.2; omega) (fun j h1 h2 => (HU.out j h1 (by have := HL.out; omega)).symm) (by rw [← HX.out.1, ← HX.out.2]; exact hgt)
  · have hne : ((la : Int) != (lb : Int)) = true := by simp; omega
    have e2 : cmpZ (val B zs) (val B ys) = cmpZ (la : Int) (lb : Int) := by
      by_cases hlt : la < lb
      · rw [cmpZ_lt (val_lt_of_len hB dz dy ty (by omega)), cmpZ_lt (by omega)]
      · rw [cmpZ_gt (val_lt_of_len hB dy dz tz (by omega)), cmpZ_gt (by omega)]
    rw [e2]
    clear e2
    go_enter Try.func60, Try.ntmps60
    go_wp2_with fail
    refine (right_any _ _ _ _ _ h).mono ?_
    rintro e w' ⟨rfl, rfl⟩
    go_wp2_with fail
    refine (right_any _ _ _ _ _ h').mono ?_
    rintro e w' ⟨rfl, rfl⟩
    go_wp2_with fail
    refine (cmpInt_any _ _ _).mono ?_
    rintro e w' ⟨rfl, rfl⟩
    go_wp2_with fail
    go_ret
    exact ⟨rfl, Below.refl _ _⟩
end Go.Proofs.Ytchmlfjjgehbkaa

namespace Go.Proofs.Ytchmlfjjgehbkaa
open Go.RowKit

/-- None is above 70. -/
def fewB (ls : List Nat) : Bool := ls.all (fun n => decide (n ≤ 70))

theorem fewB_no {ls : List Nat} {k : Nat} (hk : k < ls.length) (h : 70 < ls.getD k 0) : fewB ls = false := by
  have e : ls.getD k 0 = ls[k] := by simp [List.getD, hk]
  rw [e] at h
  cases hf : fewB ls with
  | false => rfl
  | true =>
    have := List.all_eq_true.1 hf _ (List.getElem_mem hk)
    simp at this; omega
theorem fewB_yes {ls : List Nat} {k : Nat} (hk : ls.length ≤ k) (h : ∀ j, j < k → j < ls.length → ls.getD j 0 ≤ 70) : fewB ls = true := by
  refine List.all_eq_true.2 fun x hx => ?_
  obtain ⟨i, hi, rfl⟩ := List.getElem_of_mem hx
  have := h i (by omega) hi
  simpa [List.getD, hi] using this

end Go.Proofs.Ytchmlfjjgehbkaa

namespace Go.Proofs.Ytchmlfjjgehbkaa
open Go.RowKit

/-- None is above the bound. -/
def manyB (M : Nat) (ls : List Nat) : Bool := ls.all (fun n => decide (n ≤ M))

theorem manyB_no {M : Nat} {ls : List Nat} {k : Nat} (hk : k < ls.length) (h : M < ls.getD k 0) : manyB M ls = false := by
  have e : ls.getD k 0 = ls[k] := by simp [List.getD, hk]
  rw [e] at h
  cases hf : manyB M ls with
  | false => rfl
  | true =>
    have := List.all_eq_true.1 hf _ (List.getElem_mem hk)
    simp at this; omega
theorem manyB_yes {M : Nat} {ls : List Nat} {k : Nat} (hk : ls.length ≤ k) (h : ∀ j, j < k → j < ls.length → ls.getD j 0 ≤ M) : manyB M ls = true := by
  refine List.all_eq_true.2 fun x hx => ?_
  obtain ⟨i, hi, rfl⟩ := List.getElem_of_mem hx
  have := h i (by omega) hi
  simpa [List.getD, hi] using this

end Go.Proofs.Ytchmlfjjgehbkaa

namespace Go.Proofs.Ytchmlfjjgehbkaa
open Go.RowKit

/-- The slice value v, in a row of the call's own from block 'base' on, holds the words zs. -/
def Own (w : World) (base : Nat) (v : Value) (zs : List Int) : Prop := w.ownsRow base 45 1 v zs.length (zs.map (Value.int .u64))

theorem Own.nil (w : World) (base : Nat) : Own w base (.slice none 0 0) [] := World.ownsRow_nil _ _ _ _
theorem Own.alloc {w : World} {base : Nat} {v : Value} {zs : List Int} (h : Own w base v zs) (o : Obj) : Own (w.alloc o) base v zs := World.ownsRow.alloc h o
theorem Own.drewN {w : World} {base : Nat} {v : Value} {zs : List Int} (h : Own w base v zs) (n : Nat) : Own (w.drewN n) base v zs := h

theorem Own.nums {w : World} {base : Nat} {v : Value} {zs : List Int} (h : Own w base v zs) (hd : Digs 18446744073709551616 zs) : ∃ a cap, v = .slice a zs.length cap ∧ Nums w a zs.length cap zs := by
  obtain ⟨h1, h2⟩ := h
  rcases h2 with ⟨rfl, hn⟩ | ⟨g, cap, cur, rfl, hb, hg, hnc, hcm, hcs, htk⟩
  · have e : zs = [] := List.eq_nil_of_length_eq_zero hn
    subst e
    exact ⟨none, 0, rfl, Nums.nil _⟩
  · refine ⟨some ⟨g, 0, none⟩, cap, rfl, rfl, hnc, hcm, fun _ => ⟨g, 0, rfl, fun i hi => ?_⟩, hd⟩
    have hown : w.ownsRow base 45 1 (.slice (some ⟨g, 0, none⟩) zs.length cap) zs.length (zs.map (Value.int .u64)) := ⟨h1, .inr ⟨g, cap, cur, rfl, hb, hg, hnc, hcm, hcs, htk⟩⟩
    rw [Nat.zero_add, hown.cellAt i (by omega)]
    simp [List.getD, hi]

theorem Try.info25 : (Try.prog.info? 45).map (fun i => (i.zero, i.size, i.bytes)) = some (some (.int .u64 0), 1, 8) := by kernel_rfl

theorem wpList_app1 (w : World) {ops : Array Oper} {rest : List Oper} {o : Oper} {a : Act} {Q : Exit → Act → World → Prop} (hgd : o.guard = none) (s x : Operand) (t : TypeId)
    (ho : o.op = .call { callee := .builtin .append, args := #[s, x], argTypes := #[t, t] }) (ht : Try.prog.underlying t = some (.slice 45))
    (base : Nat) (v : Value) (zs : List Int) (hs : a.eval s = v) (hown : Own w base v zs) (ad : Addr) (y : Int) (hx : a.eval x = .slice (some ad) 1 1) (hc : w.cell? ad = some (.int .u64 y))
    (hlen : zs.length < 1000000) (w0 : World) (hbase : base ≤ w.heap.size) (hb : Below base w0 w)
    (h : ∀ v' w', Own w' base v' (zs ++ [y]) → Below base w0 w' → wpList Try.prog ops Q rest (a.put o.dst v') w') : wpList Try.prog ops Q (o :: rest) a w := by
  obtain ⟨i0, hi, hz0, hz1, hz2⟩ := info_parts Try.info25
  refine wpList_append_own w hgd s x t ho base 45 i0 (.int .u64 0) 1 8 ht hi hz0 hz1 hz2 rfl (by decide) v zs.length (zs.map (Value.int .u64)) hs hown ad 1 1 [.int .u64 y] hx rfl ?_ ?_ ?_ ?_ hbase ?_
  · intro j u hj
    match j, hj with
    | 0, hj =>
      simp at hj; subst hj
      obtain ⟨b, off, spot⟩ := ad
      have hspot : spot = none := World.cell?_spot hc
      subst hspot
      rw [Addr.add_lit]; exact hc
  · intro u hu; simp at hu; subst hu; rfl
  · unfold maxLen; omega
  · omega
  · intro v' w' h2 h3 _
    refine h v' w' ?_ (hb.grown h3 hbase (fun k hk => (World.ownsRow.lt hown k hk).1))
    have e : (zs ++ [y]).length = zs.length + 1 := by simp
    unfold Own
    rw [e, List.map_append]
    exact h2

theorem Own.numsN {w : World} {base : Nat} {v : Value} {zs : List Int} (h : Own w base v zs) (hd : Digs 18446744073709551616 zs) : ∃ a n cap, v = .slice a n cap ∧ Nums w a n cap zs := by
  obtain ⟨a, cap, e, hn⟩ := h.nums hd
  exact ⟨a, _, cap, e, hn⟩

theorem Own.numsZ {w : World} {base : Nat} {v : Value} {zs : List Int} (h : Own w base v zs) (hd : Digs 18446744073709551616 zs) : ∃ a n cap, v = .slice a n cap ∧ Nums w a n cap zs ∧ (a = none → cap = 0) := by
  obtain ⟨a, cap, e, hn⟩ := h.nums hd
  refine ⟨a, _, cap, e, hn, fun ha => ?_⟩
  rcases h.2 with ⟨rfl, _⟩ | ⟨g, cap', cur, rfl, _⟩
  · simp only [Value.slice.injEq] at e; omega
  · subst ha; simp at e

theorem wpList_appN (w : World) {ops : Array Oper} {rest : List Oper} {o : Oper} {a : Act} {Q : Exit → Act → World → Prop} (hgd : o.guard = none) (s x : Operand) (t : TypeId)
    (ho : o.op = .call { callee := .builtin .append, args := #[s, x], argTypes := #[t, t] }) (ht : Try.prog.underlying t = some (.slice 45))
    (base : Nat) (v : Value) (zs : List Int) (hs : a.eval s = v) (hown : Own w base v zs) (sa : Option Addr) (m c : Nat) (ys : List Int) (hx : a.eval x = .slice sa m c) (hy : Nums w sa m c ys) (hnil : sa = none → c = 0)
    (hlen : zs.length + m < 1000000) (w0 : World) (hbase : base ≤ w.heap.size) (hb : Below base w0 w)
    (h : ∀ v' w', Own w' base v' (zs ++ ys) → Below base w0 w' → wpList Try.prog ops Q rest (a.put o.dst v') w') : wpList Try.prog ops Q (o :: rest) a w := by
  obtain ⟨i0, hi, hz0, hz1, hz2⟩ := info_parts Try.info25
  have hl := hy.hlen
  cases sa with
  | none =>
    have hm : m = 0 := by
      rcases Nat.eq_zero_or_pos m with h0 | h0
      · exact h0
      · obtain ⟨b, off, e, _⟩ := hy.cells h0; cases e
    subst hm
    obtain rfl := hnil rfl
    have e : ys = [] := List.eq_nil_of_length_eq_zero hl
    subst e
    refine wpList_plain hgd fun K hK' => ?_
    have hrun := run_append_owned_none (P := Try.prog) w base t o.type 45 i0 1 ht hi _ _ _ hown
    unfold Oper.wp
    simp [execOp, ho, resolve, invoke, builtin, hs, hx, hrun, Result.andThen]
    exact hK' _ _ (h v w (by simpa using hown) hb)
  | some ad =>
    refine wpList_append_own w hgd s x t ho base 45 i0 (.int .u64 0) 1 8 ht hi hz0 hz1 hz2 rfl (by decide) v zs.length (zs.map (Value.int .u64)) hs hown ad m c (ys.map (Value.int .u64)) hx (by simp [hl]) ?_ (ints_oneCell _ _) ?_ ?_ hbase ?_
    · intro j u hj
      have hjm : j < m := by have := (List.getElem?_eq_some_iff.1 hj).1; simp at this; omega
      obtain ⟨b, off, e, hc⟩ := hy.cells (by omega)
      cases e
      rw [Addr.add_lit, hc j hjm]
      have : (ys.map (Value.int .u64))[j]? = some (.int .u64 (ys.getD j 0)) := by simp [List.getD, show j < ys.length by omega]
      rw [this] at hj
      exact hj
    · unfold maxLen; omega
    · omega
    · intro v' w' h2 h3 _
      refine h v' w' ?_ (hb.grown h3 hbase (fun k hk => (World.ownsRow.lt hown k hk).1))
      have e : (zs ++ ys).length = zs.length + m := by simp [hl]
      unfold Own
      rw [e, List.map_append]
      exact h2

theorem run_append_nil {P : Program} {w : World} (base : Nat) (t ty e : TypeId) (i : TypeInfo) (size : Nat) (ht : P.underlying t = some (.slice e)) (hi : P.info? e = some i)
    (v : Value) (n : Nat) (xs : List Value) (hown : w.ownsRow base e size v n xs) (c : Nat) : (Builtin.append_ #[t, t] ty #[v, .slice none 0 c]).run P w = .ok v w := by
  rcases hown.2 with ⟨rfl, rfl⟩ | ⟨g, cap, cur, rfl, _, _, hnc, _⟩
  · simp [Builtin.append_, run_underlying ht, sizeOf, typeInfo, hi, Builtin.lenOf, Builtin.firstCells]
  · simp [Builtin.append_, run_underlying ht, sizeOf, typeInfo, hi, Builtin.lenOf, Builtin.firstCells, hnc, storeCells]

/-- append of numbers to words of the call's own, whatever the numbers' slice is. -/
theorem wpList_appM (w : World) {ops : Array Oper} {rest : List Oper} {o : Oper} {a : Act} {Q : Exit → Act → World → Prop} (hgd : o.guard = none) (s x : Operand) (t : TypeId)
    (ho : o.op = .call { callee := .builtin .append, args := #[s, x], argTypes := #[t, t] }) (ht : Try.prog.underlying t = some (.slice 45))
    (base : Nat) (v : Value) (zs : List Int) (hs : a.eval s = v) (hown : Own w base v zs) (sa : Option Addr) (m c : Nat) (ys : List Int) (hx : a.eval x = .slice sa m c) (hy : Nums w sa m c ys)
    (hlen : zs.length + m < 1000000) (w0 : World) (hbase : base ≤ w.heap.size) (hb : Below base w0 w)
    (h : ∀ v' w', Own w' base v' (zs ++ ys) → Below base w0 w' → wpList Try.prog ops Q rest (a.put o.dst v') w') : wpList Try.prog ops Q (o :: rest) a w := by
  cases sa with
  | some ad => exact wpList_appN w hgd s x t ho ht base v zs hs hown (some ad) m c ys hx hy (fun e => by cases e) hlen w0 hbase hb h
  | none =>
    obtain ⟨i0, hi, hz0, hz1, hz2⟩ := info_parts Try.info25
    have hl := hy.hlen
    have hm : m = 0 := by
      rcases Nat.eq_zero_or_pos m with h0 | h0
      · exact h0
      · obtain ⟨b, off, e, _⟩ := hy.cells h0; cases e
    subst hm
    have e : ys = [] := List.eq_nil_of_length_eq_zero hl
    subst e
    refine wpList_plain hgd fun K hK' => ?_
    have hrun := run_append_nil (P := Try.prog) (w := w) base t o.type 45 i0 1 ht hi _ _ _ hown c
    unfold Oper.wp
    simp [execOp, ho, resolve, invoke, builtin, hs, hx, hrun, Result.andThen]
    exact hK' _ _ (h v w (by simpa using hown) hb)

theorem Own.empty (w : World) : Own (w.alloc (.cells #[] 45)) w.heap.size (.slice (some ⟨w.heap.size, 0, none⟩) 0 0) [] :=
  World.ownsRow_lit w #[] 0 (Nat.le_refl _) (Nat.zero_le _) rfl

end Go.Proofs.Ytchmlfjjgehbkaa

namespace Go.Proofs.Ytchmlfjjgehbkaa
open Go.RowKit

theorem Digs.wide {zs : List Int} (h : Digs 65536 zs) : Digs 18446744073709551616 zs := fun x hx => by have := h x hx; omega

theorem in_step {ds : List Int} {k j : Nat} {y R : Int} (hj : j < 4) (hl : ds.length = 4 * k + j) (hd : Digs 65536 ds) (hv : val 65536 ds + 65536 ^ (4 * k + j) * y = R) (hy : 0 ≤ y) (hlt : y < 65536 ^ (4 - j)) :
    (ds ++ [y % 65536]).length = 4 * k + (j + 1) ∧ Digs 65536 (ds ++ [y % 65536]) ∧ val 65536 (ds ++ [y % 65536]) + 65536 ^ (4 * k + (j + 1)) * (y / 65536) = R ∧ 0 ≤ y / 65536 ∧ y / 65536 < 65536 ^ (4 - (j + 1)) := by
  refine ⟨by simp [hl]; omega, hd.snoc ⟨by omega, by omega⟩, ?_, by omega, ?_⟩
  · rw [val_snoc, hl, show 4 * k + (j + 1) = (4 * k + j) + 1 by omega, Int.pow_succ, Int.mul_assoc]
    have e : y = 65536 * (y / 65536) + y % 65536 := by omega
    generalize (65536 : Int) ^ (4 * k + j) = P at hv ⊢
    rw [← hv]
    have e2 : P * y = P * (65536 * (y / 65536)) + P * (y % 65536) := by rw [← Int.mul_add, ← e]
    omega
  · have e : (65536 : Int) ^ (4 - j) = 65536 ^ (4 - (j + 1)) * 65536 := by rw [← Int.pow_succ]; congr 1; omega
    rw [e] at hlt
    generalize (65536 : Int) ^ (4 - (j + 1)) = P at hlt ⊢
    omega

theorem in_end {ds zs : List Int} {k : Nat} {y : Int} (hk : k < zs.length) (hv : val 65536 ds + 65536 ^ (4 * k + 4) * y = val 18446744073709551616 (zs.take k) + 65536 ^ (4 * k) * zs.getD k 0) (hy : 0 ≤ y) (hlt : y < 65536 ^ (4 - 4)) :
    val 65536 ds = val 18446744073709551616 (zs.take (k + 1)) := by
  have e : y = 0 := by simp at hlt; omega
  subst e
  rw [val_take_succ _ _ _ hk, show (18446744073709551616 : Int) = 65536 ^ 4 by decide, ← Int.pow_mul]
  rw [show (18446744073709551616 : Int) = 65536 ^ 4 by decide] at hv
  omega

set_option maxHeartbeats 800000 in
theorem in_any (a : Option Addr) (len cap : Nat) (zs : List Int) (w : World) (h : Nums w a len cap zs) (hn : len ≤ 1000) :
    Calls Try.prog 55 #[.slice a len cap] w fun e w' => ∃ a' n cap' ds, e = .returned (.slice a' n cap') ∧ Nums w' a' n cap' ds ∧ Digs 65536 ds ∧ Top ds ∧ val 65536 ds = val 18446744073709551616 zs ∧ Below w.heap.size w w' := by
  have HL : Hid (zs.length = len) := h.hlen
  have hc := h.cells
  have HW : Hid (Digs 18446744073709551616 zs) := h.word
  clear h
  go_enter Try.func55, Try.ntmps55
  go_wp2
  go_loopw [3, 4] (fun v i wr => ∃ k : Nat, k ≤ len ∧ i = .int .i64 k ∧ ∃ ds, Own wr w.heap.size v ds ∧ ds.length = 4 * k ∧ Digs 65536 ds ∧ val 65536 ds = val 18446744073709551616 (zs.take k) ∧ Below w.heap.size w wr) (fun _ i _ => len - (intOf i).toNat)
  case atStart => exact ⟨0, Nat.zero_le _, rfl, [], Own.nil _ _, rfl, Digs.nil _, rfl, Below.refl _ _⟩
  case round =>
    obtain ⟨k, hk, rfl, ds, hown, hdl, hdd, hdv, hb⟩ := hrel
    have HD : Hid (ds.length = 4 * k ∧ Digs 65536 ds ∧ val 65536 ds = val 18446744073709551616 (zs.take k)) := ⟨hdl, hdd, hdv⟩
    clear hdl hdd hdv
    by_cases hlt : k < len
    · obtain ⟨b, off, rfl, hcell⟩ := hc (by omega)
      have hlt1 := World.block_lt_of_cell? w _ (hcell 0 (by omega))
      obtain ⟨x, hx⟩ : ∃ x, x = zs.getD k 0 := ⟨_, rfl⟩
      have c1 : wr.cell? ⟨b, off + k, none⟩ = some (.int .u64 x) := by rw [hx]; exact (hb.cell (p := ⟨b, off + k, none⟩) hlt1).trans (hcell k hlt)
      have hxw : 0 ≤ x ∧ x < 18446744073709551616 := by rw [hx]; exact HW.out.getD (by decide) k
      have HX : Hid (x = zs.getD k 0) := hx
      clear hx
      have hlti : (k : Int) < (len : Int) := by omega
      go_wp2
      go_loopw [3, 5, 6] (fun v x' jj wq => ∃ j : Nat, j ≤ 4 ∧ jj = .int .i64 j ∧ ∃ es y, x' = .int .u64 y ∧ Own wq w.heap.size v es ∧ es.length = 4 * k + j ∧ Digs 65536 es ∧
          val 65536 es + 65536 ^ (4 * k + j) * y = val 18446744073709551616 (zs.take k) + 65536 ^ (4 * k) * zs.getD k 0 ∧ 0 ≤ y ∧ y < 65536 ^ (4 - j) ∧ y < 18446744073709551616 ∧ Below w.heap.size w wq) (fun _ _ jj _ => 4 - (intOf jj).toNat)
      case atStart => exact ⟨0, by omega, rfl, ds, x, rfl, hown, HD.out.1, HD.out.2.1, by rw [HX.out, HD.out.2.2]; rfl, hxw.1, by simpa using hxw.2, hxw.2, hb⟩
      case round =>
        obtain ⟨j, hj, rfl, es, y, rfl, hown', hel, hed, hev, hy0, hylt, hyw, hb'⟩ := hrel
        have HE : Hid (es.length = 4 * k + j ∧ Digs 65536 es ∧ val 65536 es + 65536 ^ (4 * k + j) * y = val 18446744073709551616 (zs.take k) + 65536 ^ (4 * k) * zs.getD k 0 ∧ y < 65536 ^ (4 - j)) := ⟨hel, hed, hev, hylt⟩
        have helb : es.length < 1000000 := by omega
        clear hel hed hev hylt
        by_cases hj4 : j < 4
        · have R := in_step hj4 HE.out.1 HE.out.2.1 HE.out.2.2.1 hy0 HE.out.2.2.2
          have HR := (show Hid _ from R)
          clear R
          have hj4i : (j : Int) < 4 := by omega
          go_wp2_with (at_builtin; refine wpList_app1 _ rfl _ _ 81 rfl Try.underlying81 w.heap.size _ es rfl (hown'.alloc _) ⟨wr.heap.size, 0, none⟩ (y % 65536) rfl ?c1 helb w ?c2 ?c3 ?_)
          case c1 => simp
          case c2 => have := hb'.size; simp; omega
          case c3 => exact hb'.alloc hb'.size _
          intro v' w1 hown1 hb1
          clear hown' hb'
          go_wp2
          go_roundw
          case rel => exact ⟨j + 1, by omega, by go_num, _, _, rfl, hown1, HR.out.1, HR.out.2.1, HR.out.2.2.1, HR.out.2.2.2.1, HR.out.2.2.2.2, by omega, hb1⟩
          case measure => simp [intOf]; omega
        · obtain rfl : j = 4 := by omega
          have R := in_end (zs := zs) (k := k) (by have := HL.out; omega) HE.out.2.2.1 hy0 HE.out.2.2.2
          have HR := (show Hid _ from R)
          clear R
          go_wp2
          go_roundw
          case rel => exact ⟨k + 1, by omega, by go_num, es, hown', by have := HE.out.1; omega, HE.out.2.1, HR.out, hb'⟩
          case measure => simp [intOf]; omega
    · obtain rfl : k = len := by omega
      have hdd : Digs 18446744073709551616 ds := fun x hx => by have := HD.out.2.1 x hx; omega
      obtain ⟨a1, cap1, rfl, hnums⟩ := hown.nums hdd
      go_wp2_with fail
      refine (cut_any _ _ _ _ _ hnums).mono ?_
      rintro e w' ⟨m, rfl, htr, rfl⟩
      go_wp2_with fail
      go_ret
      exact ⟨_, _, _, ds.take m, rfl, hnums.take htr.le, HD.out.2.1.take m, htr.Top, by rw [htr.val, HD.out.2.2, ← HL.out, List.take_length], hb⟩
end Go.Proofs.Ytchmlfjjgehbkaa

namespace Go.Proofs.Ytchmlfjjgehbkaa
open Go.RowKit

end Go.Proofs.Ytchmlfjjgehbkaa

/-
  The document's sets: New, Full.
  The document's sets: both, its statements. Written by mk/r14both.py.
  The document's sets: both, one number. Written by mk/r14both.py.
  The document's sets: both. Written by mk/r14both.py.
  The document's sets: And, Or, Minus. Written by mk/r14both.py.
  Stage 14's laws: what they ask of the program's functions. Written by mk/p14laws.py.
-/
import Derived.Test.YtaiikhbfnfcalaaR14A
import Derived.Test.YtaiikhbfnfcalaaW12B
namespace Go.Proofs.Ytaiikhbfnfcalaa
open Go.RowKit

/-- Two cells are written. -/
theorem put2_cells {W : World} {R : Nat} {x y : Value} (h : W.heap[R]? = some (.cells #[x, y] 42 (0, 0))) (v0 v1 : Value) : (W.cell? ⟨R, 0, none⟩ = some x ∧ W.frozen? ⟨R, 0, none⟩ = false) ∧ (W.cell? ⟨R, 1, none⟩ = some y ∧ W.frozen? ⟨R, 1, none⟩ = false) ∧ ((W.setCell ⟨R, 0, none⟩ v0).setCell ⟨R, 1, none⟩ v1).cell? ⟨R, 0, none⟩ = some v0 ∧ ((W.setCell ⟨R, 0, none⟩ v0).setCell ⟨R, 1, none⟩ v1).cell? ⟨R, 1, none⟩ = some v1 := by
  have k1 := heap_setCell_same W R 0 _ _ v0 h
  have k2 := heap_setCell_same _ R 1 _ _ v1 k1
  exact ⟨⟨by rw [cell_of_row _ _ _ _ _ _ h]; rfl, frozen_of_row _ _ _ _ _ h⟩, ⟨by rw [cell_of_row _ _ _ _ _ _ h]; rfl, frozen_of_row _ _ _ _ _ h⟩, by rw [cell_of_row _ _ _ _ _ _ k2]; rfl, by rw [cell_of_row _ _ _ _ _ _ k2]; rfl⟩
theorem Nums.keep14 {W : World} {R : Nat} {x y v0 v1 : Value} {a : Option Addr} {l c : Nat} {ws : List Int} (h : W.heap[R]? = some (.cells #[x, y] 42 (0, 0))) (hn : Nums W a l c ws) (hx : ∀ u : Int, x ≠ .int .u64 u) (hy : ∀ u : Int, y ≠ .int .u64 u) : Nums ((W.setCell ⟨R, 0, none⟩ v0).setCell ⟨R, 1, none⟩ v1) a l c ws := by
  have gr := World.grownBy.trans (grown_set W R 0 v0) (grown_set (W.setCell ⟨R, 0, none⟩ v0) R 1 v1)
  refine ⟨hn.hlen, hn.hcap, hn.hmax, fun hp => ?_, hn.word⟩
  obtain ⟨b, off, e, hc⟩ := hn.cells hp
  refine ⟨b, off, e, fun i hi => ?_⟩
  have h0 := hc i hi
  have hne : b ≠ R := fun e2 => by
    subst e2
    rw [cell_of_row _ _ _ _ _ _ h] at h0
    match off + i, h0 with
    | 0, h0 => exact hx _ (Option.some.inj h0)
    | 1, h0 => exact hy _ (Option.some.inj h0)
    | j + 2, h0 => simp at h0
  exact (World.cell?_of_block (gr.block b (World.block_lt_of_cell? W _ h0) (fun e2 => hne (Option.some.inj e2)))).trans h0
/-- What is told of the whole set. -/
def ResFull (n : Int) (N : Int) (ws : List Int) (err : Int) : Prop := ((n < 0 ∨ 65536 < n) ∧ N = 0 ∧ ws = [] ∧ err = 1) ∨ ((0 ≤ n ∧ n ≤ 65536) ∧ N = n ∧ IsSet n.toNat (fun _ => true) ws ∧ err = 0)
theorem ResFull.unique {n N N' : Int} {ws ws' : List Int} {err err' : Int} (h : ResFull n N ws err) (k : ResFull n N' ws' err') : N = N' ∧ ws = ws' ∧ err = err' := by
  rcases h with ⟨h0, h1, h2, h3⟩ | ⟨h0, h1, h2, h3⟩ <;> rcases k with ⟨k0, k1, k2, k3⟩ | ⟨k0, k1, k2, k3⟩
  · exact ⟨h1.trans k1.symm, h2.trans k2.symm, h3.trans k3.symm⟩
  · omega
  · omega
  · exact ⟨h1.trans k1.symm, h2.unique k2, h3.trans k3.symm⟩
def FullT14 (n : Int) (w : World) (e : Ending) (w' : World) : Prop := ∃ N a l c ws err, e = .returned (.tuple #[.agg #[.int .i64 N, .slice a l c], .int .i64 err]) ∧ Nums w' a l c ws ∧ ResFull n N ws err ∧ Below w.heap.size w w'
theorem ResOf.full {n : Int} {k : Nat} {N : Int} {ws : List Int} {err : Int} (hk : (n < 0 ∨ 65536 < n) ∨ (k : Int) = n) (h : ResOf n (ints (List.range k)) N ws err) : ResFull n N ws err := by
  have hin : ∀ i, inList (ints (List.range k)) i = decide (i < k) := fun i => by
    unfold inList ints
    congr 1
    simp only [List.mem_map, List.mem_range, eq_iff_iff]
    constructor
    · rintro ⟨j, hj, e⟩
      have : j = i := by omega
      omega
    · intro hi
      exact ⟨i, hi, rfl⟩
  rcases h with ⟨h0, h1, h2, h3⟩ | ⟨⟨h4, h5, h6⟩, h1, h2, h3⟩
  · refine .inl ⟨?_, h1, h2, h3⟩
    rcases h0 with e | e | ⟨x, e1, e2⟩
    · exact .inl e
    · exact .inr e
    · rcases hk with q | q
      · exact q
      · obtain ⟨j, hj, rfl⟩ := List.mem_map.1 e1
        have := List.mem_range.1 hj
        omega
  · rcases hk with q | q
    · omega
    · exact .inr ⟨⟨h4, h5⟩, h1, h2.congr (fun i hi => by rw [hin]; simp; omega), h3⟩
end Go.Proofs.Ytaiikhbfnfcalaa

namespace Go.Proofs.Ytaiikhbfnfcalaa
open Go.RowKit

end Go.Proofs.Ytaiikhbfnfcalaa

namespace Go.Proofs.Ytaiikhbfnfcalaa
open Go.RowKit

end Go.Proofs.Ytaiikhbfnfcalaa

namespace Go.Proofs.Ytaiikhbfnfcalaa
open Go.RowKit

/-- What a call that puts two sets together makes. -/
def JoinT14 (op : Bool → Bool → Bool) (M : Int) (ws : List Int) (K : Int) (vs : List Int) (w : World) (e : Ending) (w' : World) : Prop := ∃ N a l c us err, e = .returned (.tuple #[.agg #[.int .i64 N, .slice a l c], .int .i64 err]) ∧ Nums w' a l c us ∧ ResJoin op M ws K vs N us err ∧ Below w.heap.size w w'
theorem inList_nums (n : Nat) (f : Nat → Bool) (i : Nat) : inList (ints (numsOfS n f)) i = (decide (i < n) && f i) := by
  unfold inList
  rw [Bool.eq_iff_iff]
  simp only [decide_eq_true_eq, Bool.and_eq_true]
  constructor
  · intro h
    obtain ⟨j, hj, e⟩ := List.mem_map.1 h
    have : j = i := by omega
    subst this
    exact (numsOfS_mem _ _ _).1 hj
  · intro h
    exact List.mem_map.2 ⟨i, (numsOfS_mem _ _ _).2 h, rfl⟩
theorem ResOf.join {op : Bool → Bool → Bool} {m : Nat} {ws vs : List Int} (h1 : RightS (m : Int) ws) (h2 : RightS (m : Int) vs) {N : Int} {us : List Int} {err : Int} (h : ResOf (m : Int) (ints (numsOfS m (fun i => op (wbit ws i) (wbit vs i)))) N us err) : ResJoin op m ws m vs N us err := by
  rcases h with ⟨h0, -, -, -⟩ | ⟨-, k1, k2, k3⟩
  · have := h1.hi
    rcases h0 with e | e | ⟨x, e1, e2⟩
    · omega
    · omega
    · obtain ⟨j, hj, rfl⟩ := List.mem_map.1 e1
      have := ((numsOfS_mem _ _ _).1 hj).1
      omega
  · refine .inr ⟨⟨h1, h2, rfl⟩, k1, k2.congr (fun i hi => ?_), k3⟩
    rw [inList_nums]
    have : i < m := hi
    simp [this]

end Go.Proofs.Ytaiikhbfnfcalaa

namespace Go.Proofs.Ytaiikhbfnfcalaa
open Go.RowKit

end Go.Proofs.Ytaiikhbfnfcalaa

namespace Go.Proofs.Ytaiikhbfnfcalaa
open Go.RowKit

def OfOk14 : Prop := ∀ (n : Int) (a : Option Addr) (len cap : Nat) (xs : List Int) (w : World), (-9223372036854775808 ≤ n ∧ n < 9223372036854775808) → Lsts w a len cap xs → len ≤ 17592186044416 → Calls Try.prog 37 #[.int .i64 n, .slice a len cap] w fun e w' => OfT14 n xs w e w'
theorem op14_and : (fun x y => (x && y && true) || (x && !y && false) || (!x && y && false) : Bool → Bool → Bool) = (fun x y => x && y) := by
  funext x y
  cases x <;> cases y <;> rfl
theorem op14_or : (fun x y => (x && y && true) || (x && !y && true) || (!x && y && true) : Bool → Bool → Bool) = (fun x y => x || y) := by
  funext x y
  cases x <;> cases y <;> rfl
theorem op14_minus : (fun x y => (x && y && false) || (x && !y && true) || (!x && y && false) : Bool → Bool → Bool) = (fun x y => x && !y) := by
  funext x y
  cases x <;> cases y <;> rfl
theorem ResFull.one {N : Int} {ws : List Int} {err : Int} (h : ResFull 1 N ws err) : N = 1 := by
  rcases h with ⟨h0, -⟩ | ⟨-, h1, -⟩
  · omega
  · exact h1
theorem ResOf.one {N : Int} {ws : List Int} {err : Int} (h : ResOf 1 [0] N ws err) : N = 1 := by
  rcases h with ⟨h0, -⟩ | ⟨-, h1, -⟩
  · rcases h0 with e | e | ⟨x, e1, e2⟩
    · omega
    · omega
    · simp at e1
      omega
  · exact h1
end Go.Proofs.Ytaiikhbfnfcalaa

/-
  What the law of ownership needs: results in new memory may be written over.
-/
import Derived.Test.YtennhoalgclhjacMul
import Derived.Test.YtennhoalgclhjacDiv
import Derived.Test.YtennhoalgclhjacShift
namespace Go.Proofs.Ytennhoalgclhjac
open Go.RowKit

theorem Fresh.below {w0 w w' : World} {a : Option Addr} {n : Nat} (h : Fresh w0 w a n) (hb : Below w.heap.size w w') : Fresh w0 w' a n := fun hp => by
  obtain ⟨g, L, e1, e2, e3, e4⟩ := h hp
  exact ⟨g, L, e1, e2, e3.below hb e3.lt, e4⟩
theorem Fresh.base {w0 w1 w : World} {a : Option Addr} {n : Nat} (h : Fresh w1 w a n) (hb : w0.heap.size ≤ w1.heap.size) : Fresh w0 w a n := fun hp => by
  obtain ⟨g, L, e1, e2, e3, e4⟩ := h hp
  exact ⟨g, L, e1, by omega, e3, e4⟩

theorem Nums.lit2 (w : World) (x y : Int) (hx : 0 ≤ x ∧ x < 18446744073709551616) (hy : 0 ≤ y ∧ y < 18446744073709551616) (t : TypeId) : Nums (w.alloc (.cells #[.int .u64 x, .int .u64 y] t)) (some ⟨w.heap.size, 0, none⟩) 2 2 [x, y] := by
  refine ⟨rfl, Nat.le_refl _, by decide, fun _ => ⟨_, _, rfl, fun i hi => ?_⟩, fun z hz => ?_⟩
  · have : i = 0 ∨ i = 1 := by omega
    rcases this with rfl | rfl <;> simp
  · simp at hz
    rcases hz with rfl | rfl <;> assumption

/-- Six slices lie in a row; each lies in a block of its own kind of memory that was made since wb. -/
structure Held (wb : World) (gl : Nat) (A : Nat → Option Addr) (N C : Nat → Nat) (w : World) : Prop where
  cell : ∀ i, i < 6 → w.cell? ⟨gl, i, none⟩ = some (.slice (A i) (N i) (C i))
  len : ∀ i, i < 6 → N i ≤ C i ∧ C i ≤ maxLen
  blk : ∀ i, i < 6 → 0 < N i → ∃ g L, A i = some ⟨g, 0, none⟩ ∧ wb.heap.size ≤ g ∧ g < gl ∧ Blk w g L ∧ N i ≤ L.length

theorem Held.set {wb w : World} {gl : Nat} {A : Nat → Option Addr} {N C : Nat → Nat} (h : Held wb gl A N C w) {i k : Nat} (hi : i < 6) (hk : k < N i) :
    ∃ g v, A i = some ⟨g, 0, none⟩ ∧ w.cell? ⟨g, k, none⟩ = some v ∧ w.frozen? ⟨g, k, none⟩ = false ∧ wb.heap.size ≤ g ∧ Held wb gl A N C (w.setCell ⟨g, k, none⟩ (.int .u64 77)) := by
  obtain ⟨g, L, e1, e2, e3, e4, e5⟩ := h.blk i hi (by omega)
  refine ⟨g, _, e1, e4.cell (by omega), e4.frozen k, e2, ⟨fun j hj => ?_, h.len, fun j hj hp => ?_⟩⟩
  · exact (grown_set w g k (.int .u64 77)).cell (h.cell j hj) (by simp; omega)
  · obtain ⟨g', L', f1, f2, f3, f4, f5⟩ := h.blk j hj hp
    by_cases hg : g' = g
    · subst hg
      exact ⟨g', L'.set k 77, f1, f2, f3, f4.set k 77, by simpa using f5⟩
    · exact ⟨g', L', f1, f2, f3, f4.grown (grown_set w g k (.int .u64 77)) (by simp; omega), f5⟩

theorem held_start {wb v : World} {s0 s1 s2 s3 s4 s5 : Option Addr} {n0 n1 n2 n3 n4 n5 c0 c1 c2 c3 c4 c5 : Nat} (t : TypeId)
    (m0 : n0 ≤ c0 ∧ c0 ≤ maxLen) (m1 : n1 ≤ c1 ∧ c1 ≤ maxLen) (m2 : n2 ≤ c2 ∧ c2 ≤ maxLen) (m3 : n3 ≤ c3 ∧ c3 ≤ maxLen) (m4 : n4 ≤ c4 ∧ c4 ≤ maxLen) (m5 : n5 ≤ c5 ∧ c5 ≤ maxLen)
    (f0 : Fresh wb v s0 n0) (f1 : Fresh wb v s1 n1) (f2 : Fresh wb v s2 n2) (f3 : Fresh wb v s3 n3) (f4 : Fresh wb v s4 n4) (f5 : Fresh wb v s5 n5) :
    ∃ A N C, Held wb v.heap.size A N C (v.alloc (.cells #[.slice s0 n0 c0, .slice s1 n1 c1, .slice s2 n2 c2, .slice s3 n3 c3, .slice s4 n4 c4, .slice s5 n5 c5] t)) := by
  have key : ∀ {a : Option Addr} {n : Nat}, Fresh wb v a n → 0 < n → ∃ g L, a = some ⟨g, 0, none⟩ ∧ wb.heap.size ≤ g ∧ g < v.heap.size ∧ Blk (v.alloc (.cells #[.slice s0 n0 c0, .slice s1 n1 c1, .slice s2 n2 c2, .slice s3 n3 c3, .slice s4 n4 c4, .slice s5 n5 c5] t)) g L ∧ n ≤ L.length := by
    intro a n hf hp
    obtain ⟨g, L, e1, e2, e3, e4⟩ := hf hp
    exact ⟨g, L, e1, e2, e3.lt, e3.below ((Below.refl v.heap.size v).alloc (Nat.le_refl _) _) e3.lt, e4⟩
  refine ⟨fun i => [s0, s1, s2, s3, s4, s5].getD i none, fun i => [n0, n1, n2, n3, n4, n5].getD i 0, fun i => [c0, c1, c2, c3, c4, c5].getD i 0, ⟨fun i hi => ?_, fun i hi => ?_, fun i hi hp => ?_⟩⟩
  · have : i = 0 ∨ i = 1 ∨ i = 2 ∨ i = 3 ∨ i = 4 ∨ i = 5 := by omega
    rcases this with rfl | rfl | rfl | rfl | rfl | rfl <;> simp
  · have : i = 0 ∨ i = 1 ∨ i = 2 ∨ i = 3 ∨ i = 4 ∨ i = 5 := by omega
    rcases this with rfl | rfl | rfl | rfl | rfl | rfl <;> assumption
  · have : i = 0 ∨ i = 1 ∨ i = 2 ∨ i = 3 ∨ i = 4 ∨ i = 5 := by omega
    rcases this with rfl | rfl | rfl | rfl | rfl | rfl
    · exact key f0 hp
    · exact key f1 hp
    · exact key f2 hp
    · exact key f3 hp
    · exact key f4 hp
    · exact key f5 hp
end Go.Proofs.Ytennhoalgclhjac

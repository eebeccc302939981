/-
  Messages: when one may be; its lists in memory.
-/
import Derived.Test.YtnbdbahfekneoaaRef12B
import Derived.Test.YtnbdbahfekneoaaBytB
import Derived.Test.YtnbdbahfekneoaaNatA
namespace Go.Proofs.Ytnbdbahfekneoaa
open Go.RowKit

/-- A slice of natural numbers lies in memory. -/
structure NRow (w : World) (a : Option Addr) (len cap : Nat) (ns : List (List Int)) : Prop where
  hlen : ns.length = len
  hcap : len ≤ cap
  hmax : cap ≤ maxLen
  cells : 0 < len → ∃ b off, a = some ⟨b, off, none⟩ ∧ ∀ i, i < len → ∃ p l c, w.cell? ⟨b, off + i, none⟩ = some (.slice p l c) ∧ Nums w p l c (ns.getD i [])
theorem NRow.below {w w' : World} {a : Option Addr} {len cap : Nat} {ns : List (List Int)} (h : NRow w a len cap ns) (hb : Below w.heap.size w w') : NRow w' a len cap ns :=
  ⟨h.hlen, h.hcap, h.hmax, fun hp => by
    obtain ⟨b, off, e, hc⟩ := h.cells hp
    refine ⟨b, off, e, fun i hi => ?_⟩
    obtain ⟨p, l, c, h1, h2⟩ := hc i hi
    exact ⟨p, l, c, (hb.cell (World.block_lt_of_cell? w _ h1)).trans h1, h2.below hb⟩⟩
theorem NRow.nil (w : World) : NRow w none 0 0 [] := ⟨rfl, Nat.le_refl _, Nat.zero_le _, fun h => absurd h (Nat.lt_irrefl _)⟩

/-- How many of A, B, C a kind has. -/
def numsOf (k : Int) : Int := if k = 3 ∨ k = 10 ∨ k = 11 then 1 else if k = 1 ∨ k = 2 ∨ k = 4 ∨ k = 5 ∨ k = 6 ∨ k = 8 then 2 else if k = 7 ∨ k = 9 then 3 else 0
/-- A message may be. -/
structure RightM (k a b c : Int) (ids rows : List Int) (nats : List (List Int)) : Prop where
  p1 : ¬ (k < 1 ∨ 11 < k ∨ a < 0 ∨ 1073741824 < a ∨ b < 0 ∨ 1073741824 < b ∨ c < 0 ∨ 1073741824 < c)
  p2 : ¬ ((numsOf k < 2 ∧ b ≠ 0) ∨ (numsOf k < 3 ∧ c ≠ 0) ∨ (k = 9 ∧ 1 < c))
  p3 : ¬ ((¬ (k = 5 ∨ k = 6) ∧ 0 < ids.length) ∨ (¬ (k = 4 ∨ k = 7) ∧ 0 < rows.length) ∨ (¬ (k = 1 ∨ k = 3 ∨ k = 5) ∧ 0 < nats.length))
  p4 : ¬ (16384 < ids.length ∨ 16384 < rows.length ∨ 16384 < nats.length)
  p5 : ¬ ((k = 1 ∧ nats.length ≠ 1) ∨ (k = 5 ∧ nats.length ≠ ids.length) ∨ (k = 6 ∧ ids.length = 0))
  p6 : ∀ i, i < ids.length → 0 ≤ ids.getD i 0 ∧ ids.getD i 0 ≤ 1073741824
  p7 : ∀ i, i < rows.length → 0 ≤ rows.getD i 0 ∧ rows.getD i 0 ≤ 1073741824 ∧ (0 < i → rows.getD (i - 1) 0 < rows.getD i 0)
  p8 : ∀ i, i < nats.length → rightB (nats.getD i []) = true ∧ (nats.getD i []).length ≤ 4
/-- What is told of a message's right. -/
def RgtT (k a b c : Int) (ids rows : List Int) (nats : List (List Int)) (w : World) (e : Ending) (w' : World) : Prop := ∃ r, e = .returned (.bool r) ∧ (r = true ↔ RightM k a b c ids rows nats) ∧ Below w.heap.size w w'
end Go.Proofs.Ytnbdbahfekneoaa

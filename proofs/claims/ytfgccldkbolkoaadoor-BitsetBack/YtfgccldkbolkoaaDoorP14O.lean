/-
  Stage 14's laws: what they ask of the program's functions. Written by mk/p14laws.py.
-/
import Derived.Test.YtfgccldkbolkoaaDoorRef14J
import Derived.Test.YtfgccldkbolkoaaDoorW12B
namespace Go.Proofs.YtfgccldkbolkoaaDoor
open Go.RowKit

def RgtOk14 : Prop := ∀ (N : Int) (a : Option Addr) (l c : Nat) (ws : List Int) (w : World), (-9223372036854775808 ≤ N ∧ N < 9223372036854775808) → Nums w a l c ws → Calls Tryd.prog 10 #[.agg #[.int .i64 N, .slice a l c]] w fun e w' => ∃ b, e = .returned (.bool b) ∧ (b = true ↔ RightS N ws) ∧ Below w.heap.size w w'
def LstOk14 (T : World → Prop) : Prop := ∀ (N : Int) (a : Option Addr) (l c : Nat) (ws : List Int) (w : World), (-9223372036854775808 ≤ N ∧ N < 9223372036854775808) → Nums w a l c ws → T w → Calls Tryd.prog 6 #[.agg #[.int .i64 N, .slice a l c]] w fun e w' => ∃ ns p q, e = .returned (.slice p (ns : List Nat).length q) ∧ Lsts w' p ns.length q (ints ns) ∧ ResList N ws ns ∧ Below w.heap.size w w'
def CntOk14 : Prop := ∀ (N : Int) (a : Option Addr) (l c : Nat) (ws : List Int) (w : World), (-9223372036854775808 ≤ N ∧ N < 9223372036854775808) → Nums w a l c ws → Calls Tryd.prog 13 #[.agg #[.int .i64 N, .slice a l c]] w fun e w' => ∃ ns : List Nat, e = .returned (.int .i64 (ns.length : Int)) ∧ ResList N ws ns ∧ Below w.heap.size w w'
def HasOk14 : Prop := ∀ (N : Int) (a : Option Addr) (l c : Nat) (ws : List Int) (i : Int) (w : World), (-9223372036854775808 ≤ N ∧ N < 9223372036854775808) → (-9223372036854775808 ≤ i ∧ i < 9223372036854775808) → Nums w a l c ws → Calls Tryd.prog 9 #[.agg #[.int .i64 N, .slice a l c], .int .i64 i] w fun e w' => HasT14 N ws i w e w'
def OfOk14 : Prop := ∀ (n : Int) (a : Option Addr) (len cap : Nat) (xs : List Int) (w : World), (-9223372036854775808 ≤ n ∧ n < 9223372036854775808) → Lsts w a len cap xs → len ≤ 17592186044416 → Calls Tryd.prog 15 #[.int .i64 n, .slice a len cap] w fun e w' => OfT14 n xs w e w'
theorem op14_and : (fun x y => (x && y && true) || (x && !y && false) || (!x && y && false) : Bool → Bool → Bool) = (fun x y => x && y) := by
  funext x y
  cases x <;> cases y <;> rfl
theorem op14_or : (fun x y => (x && y && true) || (x && !y && true) || (!x && y && true) : Bool → Bool → Bool) = (fun x y => x || y) := by
  funext x y
  cases x <;> cases y <;> rfl
theorem op14_minus : (fun x y => (x && y && false) || (x && !y && true) || (!x && y && false) : Bool → Bool → Bool) = (fun x y => x && !y) := by
  funext x y
  cases x <;> cases y <;> rfl
theorem ResFull.one {N : Int} {ws : List Int} {err : Int} (h : ResFull 1 N ws err) : N = 1 := by
  rcases h with ⟨h0, -⟩ | ⟨-, h1, -⟩
  · omega
  · exact h1
theorem ResOf.one {N : Int} {ws : List Int} {err : Int} (h : ResOf 1 [0] N ws err) : N = 1 := by
  rcases h with ⟨h0, -⟩ | ⟨-, h1, -⟩
  · rcases h0 with e | e | ⟨x, e1, e2⟩
    · omega
    · omega
    · simp at e1
      omega
  · exact h1
end Go.Proofs.YtfgccldkbolkoaaDoor

/-
  Stage 14's laws: what they ask of the program's functions. Written by mk/p14laws.py.
-/
import Derived.Test.YtfgccldkbolkoaaRef14J
import Derived.Test.YtfgccldkbolkoaaW12B
namespace Go.Proofs.Ytfgccldkbolkoaa
open Go.RowKit

def RgtOk14 : Prop := ∀ (N : Int) (a : Option Addr) (l c : Nat) (ws : List Int) (w : World), (-9223372036854775808 ≤ N ∧ N < 9223372036854775808) → Nums w a l c ws → Calls Try.prog 30 #[.agg #[.int .i64 N, .slice a l c]] w fun e w' => ∃ b, e = .returned (.bool b) ∧ (b = true ↔ RightS N ws) ∧ Below w.heap.size w w'
def CntOk14 : Prop := ∀ (N : Int) (a : Option Addr) (l c : Nat) (ws : List Int) (w : World), (-9223372036854775808 ≤ N ∧ N < 9223372036854775808) → Nums w a l c ws → Calls Try.prog 20 #[.agg #[.int .i64 N, .slice a l c]] w fun e w' => ∃ ns : List Nat, e = .returned (.int .i64 (ns.length : Int)) ∧ ResList N ws ns ∧ Below w.heap.size w w'
def NewOk14 : Prop := ∀ (n : Int) (w : World), (-9223372036854775808 ≤ n ∧ n < 9223372036854775808) → Calls Try.prog 6 #[.int .i64 n] w fun e w' => OfT14 n [] w e w'
def FulOk14 : Prop := ∀ (n : Int) (w : World), (-9223372036854775808 ≤ n ∧ n < 9223372036854775808) → Calls Try.prog 9 #[.int .i64 n] w fun e w' => FullT14 n w e w'
def OfOk14 : Prop := ∀ (n : Int) (a : Option Addr) (len cap : Nat) (xs : List Int) (w : World), (-9223372036854775808 ≤ n ∧ n < 9223372036854775808) → Lsts w a len cap xs → len ≤ 17592186044416 → Calls Try.prog 11 #[.int .i64 n, .slice a len cap] w fun e w' => OfT14 n xs w e w'
def AndOk14 : Prop := ∀ (M K : Int) (a b : Option Addr) (la ca lb cb : Nat) (ws vs : List Int) (w : World), (-9223372036854775808 ≤ M ∧ M < 9223372036854775808) → (-9223372036854775808 ≤ K ∧ K < 9223372036854775808) → Nums w a la ca ws → Nums w b lb cb vs → Calls Try.prog 14 #[.agg #[.int .i64 M, .slice a la ca], .agg #[.int .i64 K, .slice b lb cb]] w fun e w' => JoinT14 (fun x y => x && y) M ws K vs w e w'
def OrOk14 : Prop := ∀ (M K : Int) (a b : Option Addr) (la ca lb cb : Nat) (ws vs : List Int) (w : World), (-9223372036854775808 ≤ M ∧ M < 9223372036854775808) → (-9223372036854775808 ≤ K ∧ K < 9223372036854775808) → Nums w a la ca ws → Nums w b lb cb vs → Calls Try.prog 16 #[.agg #[.int .i64 M, .slice a la ca], .agg #[.int .i64 K, .slice b lb cb]] w fun e w' => JoinT14 (fun x y => x || y) M ws K vs w e w'
def MinOk14 : Prop := ∀ (M K : Int) (a b : Option Addr) (la ca lb cb : Nat) (ws vs : List Int) (w : World), (-9223372036854775808 ≤ M ∧ M < 9223372036854775808) → (-9223372036854775808 ≤ K ∧ K < 9223372036854775808) → Nums w a la ca ws → Nums w b lb cb vs → Calls Try.prog 18 #[.agg #[.int .i64 M, .slice a la ca], .agg #[.int .i64 K, .slice b lb cb]] w fun e w' => JoinT14 (fun x y => x && !y) M ws K vs w e w'
theorem op14_and : (fun x y => (x && y && true) || (x && !y && false) || (!x && y && false) : Bool → Bool → Bool) = (fun x y => x && y) := by
  funext x y
  cases x <;> cases y <;> rfl
theorem r14and_ok (M K : Int) (a b : Option Addr) (la ca lb cb : Nat) (ws vs : List Int) (w : World) (hM : -9223372036854775808 ≤ M ∧ M < 9223372036854775808) (hK : -9223372036854775808 ≤ K ∧ K < 9223372036854775808) (hx : Nums w a la ca ws) (hy : Nums w b lb cb vs) : Calls Try.prog 15 #[.agg #[.int .i64 M, .slice a la ca], .agg #[.int .i64 K, .slice b lb cb]] w fun e w' => JoinT14 (fun x y => x && y) M ws K vs w e w' := by
  have h := r14and_any M K a b la ca lb cb ws vs w hM hK hx hy
  rw [op14_and] at h
  exact h
theorem op14_or : (fun x y => (x && y && true) || (x && !y && true) || (!x && y && true) : Bool → Bool → Bool) = (fun x y => x || y) := by
  funext x y
  cases x <;> cases y <;> rfl
theorem r14or_ok (M K : Int) (a b : Option Addr) (la ca lb cb : Nat) (ws vs : List Int) (w : World) (hM : -9223372036854775808 ≤ M ∧ M < 9223372036854775808) (hK : -9223372036854775808 ≤ K ∧ K < 9223372036854775808) (hx : Nums w a la ca ws) (hy : Nums w b lb cb vs) : Calls Try.prog 17 #[.agg #[.int .i64 M, .slice a la ca], .agg #[.int .i64 K, .slice b lb cb]] w fun e w' => JoinT14 (fun x y => x || y) M ws K vs w e w' := by
  have h := r14or_any M K a b la ca lb cb ws vs w hM hK hx hy
  rw [op14_or] at h
  exact h
theorem op14_minus : (fun x y => (x && y && false) || (x && !y && true) || (!x && y && false) : Bool → Bool → Bool) = (fun x y => x && !y) := by
  funext x y
  cases x <;> cases y <;> rfl
theorem r14minus_ok (M K : Int) (a b : Option Addr) (la ca lb cb : Nat) (ws vs : List Int) (w : World) (hM : -9223372036854775808 ≤ M ∧ M < 9223372036854775808) (hK : -9223372036854775808 ≤ K ∧ K < 9223372036854775808) (hx : Nums w a la ca ws) (hy : Nums w b lb cb vs) : Calls Try.prog 19 #[.agg #[.int .i64 M, .slice a la ca], .agg #[.int .i64 K, .slice b lb cb]] w fun e w' => JoinT14 (fun x y => x && !y) M ws K vs w e w' := by
  have h := r14minus_any M K a b la ca lb cb ws vs w hM hK hx hy
  rw [op14_minus] at h
  exact h
theorem ResFull.one {N : Int} {ws : List Int} {err : Int} (h : ResFull 1 N ws err) : N = 1 := by
  rcases h with ⟨h0, -⟩ | ⟨-, h1, -⟩
  · omega
  · exact h1
theorem ResOf.one {N : Int} {ws : List Int} {err : Int} (h : ResOf 1 [0] N ws err) : N = 1 := by
  rcases h with ⟨h0, -⟩ | ⟨-, h1, -⟩
  · rcases h0 with e | e | ⟨x, e1, e2⟩
    · omega
    · omega
    · simp at e1
      omega
  · exact h1
end Go.Proofs.Ytfgccldkbolkoaa

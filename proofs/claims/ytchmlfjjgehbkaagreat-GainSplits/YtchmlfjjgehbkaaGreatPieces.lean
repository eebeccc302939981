/-
  A function's text by its statements: words for each, and how they are put together.
-/
import Derived.Test.YtchmlfjjgehbkaaGreatNatA
namespace Go.Proofs.YtchmlfjjgehbkaaGreat
open Go.RowKit

def pcHas (n : Nat) : Code → Bool
  | .region k _ _ => Nat.beq k n
  | .seq a b => match pcHas n a with
    | true => true
    | false => pcHas n b
  | .cond _ a b => match pcHas n a with
    | true => true
    | false => pcHas n b
  | .block _ c => pcHas n c
  | .loop c => pcHas n c
  | .scope c => pcHas n c
  | _ => false
/-- The statement of a text that holds the region of that number; the text from there on. -/
def pcAt (n : Nat) : Code → Option Code
  | .seq a b => match pcHas n a with
    | true => some a
    | false => pcAt n b
  | c => some c
def pcFrom (n : Nat) : Code → Option Code
  | .seq a b => match pcHas n a with
    | true => some (.seq a b)
    | false => pcFrom n b
  | c => some c
/-- The body of the block of that number; the round of the loop in it. -/
def pcBlk (n : Nat) : Code → Option Code
  | .block k c => match Nat.beq k n with
    | true => some c
    | false => pcBlk n c
  | .seq a b => match pcBlk n a with
    | some c => some c
    | none => pcBlk n b
  | .cond _ a b => match pcBlk n a with
    | some c => some c
    | none => pcBlk n b
  | .loop c => pcBlk n c
  | .scope c => pcBlk n c
  | _ => none
def pcOfLoop : Code → Option Code
  | .loop c => some c
  | _ => none
def pcLoop (n : Nat) (c : Code) : Option Code := (pcBlk n c).bind pcOfLoop
/-- The way on alone. -/
def pcOnly (R : Act → World → Prop) : Exit → Act → World → Prop
  | .normal, a, w => R a w
  | _, _, _ => False
theorem wp_pcOnly {P : Program} {c : Code} {Q : Exit → Act → World → Prop} {a : Act} {w : World} (h : Code.wp P c (pcOnly (Q .normal)) a w) : Code.wp P c Q a w := wp_mono h fun e a w q => by
  cases e
  · exact q
  all_goals exact False.elim q
theorem pcSeq {P : Program} {x y : Code} {Q : Exit → Act → World → Prop} {a : Act} {w : World} (h : ∀ Q' : Exit → Act → World → Prop, (∀ a w, Code.wp P y Q a w → Q' .normal a w) → (∀ a w, Q .ret a w → Q' .ret a w) → (∀ n a w, Q (.exit n) a w → Q' (.exit n) a w) → Code.wp P x Q' a w) : Code.wp P (.seq x y) Q a w := wp_seq (h _ (fun _ _ h => h) (fun _ _ h => h) (fun _ _ _ h => h))
theorem pcBlock {P : Program} {id : Nat} {c : Code} {Q : Exit → Act → World → Prop} {a : Act} {w : World} (h : ∀ Q' : Exit → Act → World → Prop, (∀ a w, Q .normal a w → Q' .normal a w) → (∀ a w, Q .normal a w → Q' (.exit id) a w) → (∀ a w, Q .ret a w → Q' .ret a w) → Code.wp P c Q' a w) : Code.wp P (.block id c) Q a w := wp_block (h _ (fun _ _ h => h) (fun _ _ h => by
  show (if id = id then _ else _)
  rw [if_pos rfl]
  exact h) (fun _ _ h => h))
end Go.Proofs.YtchmlfjjgehbkaaGreat

/-
  Contracts of the document's numbers and Right (wire), a statement of its text at a time. Written by mk/ref12c.py.
  The document's Right: how many numbers a kind has. Written by mk/ref12c.py.
  The document's Right: which lists a kind has. Written by mk/ref12c.py.
  The document's Right: lists that a kind has not. Written by mk/ref12c.py.
  The document's Right: how long the lists are. Written by mk/ref12c.py.
-/
import Derived.Test.YtchmlfjjgehbkaaW12A
namespace Go.Proofs.Ytchmlfjjgehbkaa
open Go.RowKit

def hasR (n : Nat) : Code → Bool
  | .region k _ _ => Nat.beq k n
  | .seq a b => match hasR n a with
    | true => true
    | false => hasR n b
  | .cond _ a b => match hasR n a with
    | true => true
    | false => hasR n b
  | .block _ c => hasR n c
  | .loop c => hasR n c
  | .scope c => hasR n c
  | _ => false
/-- The statement of a text that holds the region of that number; the text from there on. -/
def stmtAt (n : Nat) : Code → Option Code
  | .seq a b => match hasR n a with
    | true => some a
    | false => stmtAt n b
  | c => some c
def restAt (n : Nat) : Code → Option Code
  | .seq a b => match hasR n a with
    | true => some (.seq a b)
    | false => restAt n b
  | c => some c

end Go.Proofs.Ytchmlfjjgehbkaa

namespace Go.Proofs.Ytchmlfjjgehbkaa
open Go.RowKit

end Go.Proofs.Ytchmlfjjgehbkaa

namespace Go.Proofs.Ytchmlfjjgehbkaa
open Go.RowKit

end Go.Proofs.Ytchmlfjjgehbkaa

namespace Go.Proofs.Ytchmlfjjgehbkaa
open Go.RowKit

end Go.Proofs.Ytchmlfjjgehbkaa

namespace Go.Proofs.Ytchmlfjjgehbkaa
open Go.RowKit

end Go.Proofs.Ytchmlfjjgehbkaa

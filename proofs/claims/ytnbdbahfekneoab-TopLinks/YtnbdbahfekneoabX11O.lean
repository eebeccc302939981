/-
  The program's end of a link does what the laws ask.
-/
import Derived.Test.YtnbdbahfekneoabX11N
namespace Go.Proofs.Ytnbdbahfekneoab
open Go.RowKit

theorem end_use11 : EndUse11 PEnd where
  toEndKept11 := pend_kept
  new := fun n w _ => p11new_any n w
  send := fun g st T a la ca body w h hb _ hl => p11send_any g st T a la ca body w h hb hl
  tick := p11tick_any
  out := fun g st T w h => (callsIn_wide (n := 6)).1 (p11out_in 6 (by omega) g st T w h)
  inn := fun g st T a la ca bs w h hb _ hl hall => p11in_any g st T a la ca bs w h hb hl hall
  next := p11next_any
end Go.Proofs.Ytnbdbahfekneoab

/-
  The program's reader: Bytes; and that the reader is as the laws ask.
-/
import Derived.Test.YtfnhaenoaneoeabX9C
import Derived.Deep.RegionWith
import Derived.BigRegion
namespace Go.Proofs.Ytfnhaenoaneoeab
open Go.RowKit

theorem rd_n9 : RdN9 CRdAt where
  lt := CRdAt.lt
  head := CRdAt.head
  below := CRdAt.below
  apart := CRdAt.apart
  new := fun a l c bs w h _ hl => c9new_any a l c bs w h hl
  left := fun g L w h => (c9left_any g L w h).mono fun e w' ⟨he, hw⟩ => ⟨he, by subst hw; exact Below.refl _ _⟩
  num := fun g L most w h _ => c9rnum_any g L most w h
end Go.Proofs.Ytfnhaenoaneoeab

/-
  The contract of fresh: a tape of the program's and one of the document's, of the same bytes.
-/
import Derived.Test.YtfafbggijhghcaaTapeC
namespace Go.Proofs.Ytfafbggijhghcaa
open Go.RowKit

theorem row_nil {k : IntKind} {w : World} {a : Option Addr} {len cap : Nat} {zs : List Int} (h : IsRow k w a len cap zs) : a = none → cap = 0 := by
  rintro rfl
  rcases h with ⟨_, _, h, _⟩ | ⟨x, e, _⟩
  · exact h
  · cases e

/-- What fresh tells of so many bytes. -/
def FreshT (w : World) (len : Nat) (bs : List Int) (e : Ending) (w' : World) : Prop :=
  Below w.heap.size w w' ∧ ((65536 < len ∧ e = .returned (.tuple #[.pointer none, .pointer none, .bool true])) ∨ (len ≤ 65536 ∧ ∃ g k, e = .returned (.tuple #[.pointer (some ⟨g, 0, none⟩), .pointer (some ⟨k, 0, none⟩), .bool true]) ∧ TapeAt w' g bs ∧ RTapeAt w' k bs ∧ w.heap.size ≤ g ∧ w.heap.size ≤ k))

set_option maxHeartbeats 400000 in
theorem fresh_any (a : Option Addr) (len cap : Nat) (bs : List Int) (w : World) (h : Byts w a len cap bs) (hnil : a = none → cap = 0) :
    Calls Try.prog 9 #[.slice a len cap] w fun e w' => FreshT w len bs e w' := by
  go_enter Try.func9, Try.ntmps9
  go_wp2_with fail
  refine (tnew_any _ _ _ _ _ h).mono ?_
  rintro e w1 ⟨hb1, ⟨hl, rfl⟩ | ⟨hl, g, rfl, hT, hg⟩⟩
  · go_wp2_with fail
    refine (rtnew_any _ _ _ _ _ (h.below hb1) hnil).mono ?_
    rintro e w2 ⟨hb2, ⟨_, rfl⟩ | ⟨hl2, _⟩⟩
    · go_wp2
      refine bodyPost_ret (v := .tuple #[.pointer none, .pointer none, .bool true]) (by simp [results, Try.results9, go_sem]) rfl ?_
      exact ⟨hb1.trans (hb2.mono hb1.size), .inl ⟨hl, rfl⟩⟩
    · omega
  · go_wp2_with fail
    refine (rtnew_any _ _ _ _ _ (h.below hb1) hnil).mono ?_
    rintro e w2 ⟨hb2, ⟨hl2, rfl⟩ | ⟨hl2, k, rfl, hR, hk⟩⟩
    · omega
    · have hT2 := hT.below hb2
      have hk2 : w.heap.size ≤ k := Nat.le_trans hb1.size hk
      clear hT hk
      go_wp2
      refine bodyPost_ret (v := .tuple #[.pointer (some ⟨g, 0, none⟩), .pointer (some ⟨k, 0, none⟩), .bool true]) (by simp [results, Try.results9, go_sem]) rfl ?_
      exact ⟨hb1.trans (hb2.mono hb1.size), .inr ⟨hl, g, k, rfl, hT2, hR, hg, hk2⟩⟩
end Go.Proofs.Ytfafbggijhghcaa

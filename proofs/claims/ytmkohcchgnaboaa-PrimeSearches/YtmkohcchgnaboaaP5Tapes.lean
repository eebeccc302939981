/-
  Walks of stage 5's laws over tapes, from the contracts of the program's own functions.
-/
import Derived.Test.YtmkohcchgnaboaaRefSearch
namespace Go.Proofs.Ytmkohcchgnaboaa
open Go.RowKit

/-- The program searches a tape for a prime. -/
def SearchOk : Prop := (∀ (B t : Int) (w : World), Calls Try.prog 13 #[.pointer none, .int .i64 B, .int .i64 t] w fun e w' => e = .returned (.tuple #[.int .u64 0, .int .i64 1]) ∧ Below w.heap.size w w') ∧
  ∀ (g : Nat) (L : List Int) (B t : Int) (w : World), TapeAt w g L → Calls Try.prog 13 #[.pointer (some ⟨g, 0, none⟩), .int .i64 B, .int .i64 t] w fun e w' => SearchT TapeAt w g B t L e w'

theorem grown_new {w w1 w2 : World} {g : Nat} (h : Below w.heap.size w w1) (hg : w.heap.size ≤ g) (k : w1.grownBy w2 (some g)) : Below w.heap.size w w2 :=
  h.grown k h.size (fun j hj => by cases hj; exact hg)

set_option maxRecDepth 20000 in
set_option maxHeartbeats 3200000 in
theorem searches_walk (hS : SearchOk) (a0 : Option Addr) (len0 cap0 : Nat) (bs : List Int) (x0 x1 : Int) (w : World) (H0 : Byts w a0 len0 cap0 bs) (hnil : a0 = none → cap0 = 0) :
    Calls Try.prog 6 #[.slice a0 len0 cap0, .int .i64 x0, .int .i64 x1] w fun e w' => e = .returned (.bool true) ∧ Below w.heap.size w w' := by
  go_enter Try.func6, Try.ntmps6
  go_wp2_with fail
  refine (tnew_any _ _ _ _ _ H0).mono ?_
  rintro e v1 ⟨hb1, ⟨hl, rfl⟩ | ⟨hl, g, rfl, hT, hg⟩⟩
  · go_wp2_with fail
    refine (rtnew_any _ _ _ _ _ (H0.below hb1) hnil).mono ?_
    rintro e v2 ⟨hb2, ⟨hl2, rfl⟩ | ⟨hl2, _⟩⟩
    · have hB := hb1.trans (hb2.mono hb1.size)
      clear H0 hb1 hb2
      go_wp2_with fail
      generalize min x1 300 = t
      refine (hS.1 x0 t _).mono ?_
      rintro e v3 ⟨rfl, hb3⟩
      have hB3 := hB.trans (hb3.mono hB.size)
      clear hB hb3
      go_wp2_with fail
      refine (rsearch_nil x0 t _).mono ?_
      rintro e v4 ⟨rfl, rfl⟩
      go_wp2
      go_ret
      exact ⟨rfl, hB3⟩
    · omega
  · go_wp2_with fail
    refine (rtnew_any _ _ _ _ _ (H0.below hb1) hnil).mono ?_
    rintro e v2 ⟨hb2, ⟨hl2, rfl⟩ | ⟨-, g', rfl, hT', hg'⟩⟩
    · omega
    have hB2 := hb1.trans (hb2.mono hb1.size)
    have hT2 := hT.below hb2
    have hne := hT2.other hT'
    have hgw : w.heap.size ≤ g' := Nat.le_trans hb1.size hg'
    clear hT H0 hb1 hb2
    go_wp2_with fail
    generalize min x1 300 = t
    refine (hS.2 g bs x0 t _ hT2).mono ?_
    rintro e v3 ⟨p, e1, R1, rfl, r1, hT3, hg3⟩
    have hT3' := hT'.apart hg3 hT2.head (fun e => hne e.symm)
    have hB3 := grown_new hB2 hg hg3
    have HR1 : Hid (ResSearch x0 t bs p e1 R1) := r1
    clear hT2 hT' hB2 hg3 r1
    go_wp2_with fail
    refine (rsearch_any g' bs x0 t _ hT3').mono ?_
    rintro e v4 ⟨p', e1', R1', rfl, r1', hT4', hg4⟩
    have hT4 := hT3.apart hg4 hT3'.head hne
    have hB4 := grown_new hB3 hgw hg4
    obtain ⟨rfl, rfl, rfl⟩ := HR1.out.unique r1'
    clear hT3 hT3' hB3 hg4 r1' HR1
    go_wp2_with fail
    refine (left_any _ _ _ hT4).mono ?_
    rintro e v5 ⟨rfl, rfl⟩
    go_wp2_with fail
    refine (rleft_any _ _ _ hT4').mono ?_
    rintro e v6 ⟨rfl, hb6⟩
    have hB6 := hB4.trans (hb6.mono hB4.size)
    clear hT4 hT4' hB4 hb6
    go_wp2
    go_ret
    exact ⟨by simp, hB6⟩
end Go.Proofs.Ytmkohcchgnaboaa

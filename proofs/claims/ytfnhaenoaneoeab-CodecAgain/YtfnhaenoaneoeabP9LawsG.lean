/-
  Stage 9's laws: the walk of CodecAgain.
-/
import Derived.Test.YtfnhaenoaneoeabP9Rd
import Derived.Deep.RegionHeld
namespace Go.Proofs.Ytfnhaenoaneoeab
open Go.RowKit

theorem Byts.take9 {w : World} {a : Option Addr} {l c k : Nat} {bs : List Int} (h : Byts w a l c bs) (hk : k ≤ l) : Byts w a k c (bs.take k) := by
  refine ⟨by have := h.hlen; simp; omega, by have := h.hcap; omega, h.hmax, fun hp => ?_, fun x hx => h.word x (List.mem_of_mem_take hx)⟩
  obtain ⟨b, off, e, hc⟩ := h.cells (by omega)
  refine ⟨b, off, e, fun i hi => ?_⟩
  rw [hc i (by omega)]
  have := h.hlen
  simp [List.getD, hi]

set_option maxRecDepth 100000 in
set_option maxHeartbeats 6400000 in
theorem again9_walk {At : World → Nat → List Int → Prop} (A : RdN9 At) (HN : NumOk9) (a : Option Addr) (la ca : Nat) (bs : List Int) (w : World) (H : Byts w a la ca bs) (hnil : a = none → ca = 0) (hlen : la ≤ 140737488355300) :
    Calls Try.prog 3 #[.slice a la ca] w fun e w' => e = .returned (.bool true) ∧ Below w.heap.size w w' := by
  have hcap := H.hcap
  have hmax := H.hmax
  have hL := H.hlen
  unfold maxLen at hmax
  go_enter Try.func3, Try.ntmps3
  go_wp2_with fail
  refine (A.new a la ca bs _ H hnil hlen).mono ?_
  rintro e w1 ⟨g, rfl, hg, hA, hB1⟩
  go_wp2_with fail
  refine (A.num g bs 18446744073709551615 _ hA (by decide)).mono ?_
  rintro e w2 ⟨n, err, R, rfl, hr, hA2, hg2⟩
  have hB2 : Below w.heap.size w w2 := hB1.grown hg2 hB1.size (fun q hq => by cases hq; exact hg)
  clear hA hB1 hg2
  obtain ⟨m, k, hN, hc⟩ := hr
  rcases hc with ⟨hk, rfl, rfl, rfl⟩ | ⟨hk, rfl, rfl, rfl⟩
  · have hleft := A.left g R _ hA2
    rw [hL] at hleft
    clear hA2 hN hk hL H
    go_wp2_with fail
    refine hleft.mono ?_
    rintro e w3 ⟨rfl, h3⟩
    have hB3 := hB2.trans (h3.mono hB2.size)
    clear h3 hB2 hleft
    go_wp2
    go_ret
    exact ⟨by simp, hB3⟩
  · obtain ⟨n1, n2, n3⟩ := hN.pos (by omega)
    have hleft := A.left g (bs.drop k) _ hA2
    obtain ⟨r, hr⟩ : ∃ r, (bs.drop k).length = r := ⟨_, rfl⟩
    rw [hr] at hleft
    have hrk : r + k = la := by rw [← hr, List.length_drop]; omega
    have hu : (la : Int) - (r : Int) = (k : Int) := by omega
    have hk1 : 1 ≤ k := by omega
    have hkl : k ≤ la := by omega
    have hk1i : (1 : Int) ≤ (k : Int) := by omega
    have hkli : (k : Int) ≤ (la : Int) := by omega
    have hkc : (k : Int) ≤ (ca : Int) := by omega
    have HC : Hid (IsCode (bs.take k) n) := n3
    obtain ⟨b, off, rfl, -⟩ := H.cells (by omega)
    clear hN hk n3 hr hL hA2
    go_wp2_with fail
    refine hleft.mono ?_
    rintro e w3 ⟨rfl, h3⟩
    have hB3 := hB2.trans (h3.mono hB2.size)
    have X := (H.below hB3).take9 hkl
    clear h3 hB2 hleft H
    obtain ⟨S, hS⟩ : ∃ S, S = strOf (bs.take k) := ⟨_, rfl⟩
    have HS : Hid (∀ wx : World, Below w3.heap.size w3 wx → (convert 22 9 (.slice (some ⟨b, off, none⟩) k ca)).run Try.prog wx = .ok (.string S) wx) := fun wx hx => by rw [hS]; exact conv_any (X.below hx)
    have q1 := HS.out w3.drew ⟨rfl, rfl, rfl, Nat.le_refl _, fun _ _ => rfl⟩
    have HRB : Hid (∀ wx, Below w3.heap.size w3 wx → Calls Try.prog 7 #[.int .u64 n] wx fun e w' => ∃ ta tn tc, e = .returned (.slice ta tn tc) ∧ Below w.heap.size w w' ∧
        (convert 22 9 (.slice (some ⟨b, off, none⟩) k ca)).run Try.prog w' = .ok (.string S) w' ∧ (convert 22 9 (.slice ta tn tc)).run Try.prog w' = .ok (.string S) w') := by
      intro wx hx
      refine (HN n wx n1).mono ?_
      rintro e w' ⟨ta, tn, tc, ys, rfl, T, hc, -, hb'⟩
      obtain rfl : bs.take k = ys := HC.out.bytes hc
      have hB' := hx.trans (hb'.mono hx.size)
      refine ⟨ta, tn, tc, rfl, hB3.trans (hB'.mono hB3.size), HS.out _ hB', ?_⟩
      rw [hS]; exact conv_any T
    clear hS HC X
    go_wp2_with fail
    go_region_held (fun w' => (convert 22 9 (.slice (some ⟨b, off, none⟩) k ca)).run Try.prog w' = .ok (.string S) w') (first | exact q1 | exact k1 | assumption) ((go_at_call 7; refine (HRB.out _ ?_).mono ?_; (exact ⟨rfl, rfl, rfl, Nat.le_refl _, fun _ _ => rfl⟩); rintro e w6 ⟨ta, tn, tc, rfl, hB6, k1, k2⟩))
    all_goals
      go_wp2
      go_ret
      exact ⟨by simp, ⟨hB6.os, hB6.tape, hB6.output, hB6.size, hB6.block⟩⟩
end Go.Proofs.Ytfnhaenoaneoeab

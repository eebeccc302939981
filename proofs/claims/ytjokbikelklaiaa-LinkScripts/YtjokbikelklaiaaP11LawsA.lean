/-
  Stage 11's laws: the walk of LinkEnds; two ends side by side.
-/
import Derived.Test.YtjokbikelklaiaaR11G
import Derived.Test.YtjokbikelklaiaaP11Same
namespace Go.Proofs.Ytjokbikelklaiaa
open Go.RowKit

set_option maxRecDepth 20000 in
set_option maxHeartbeats 1600000 in
theorem ends11_walk {At : World → Nat → LS → (Nat → Prop) → Prop} (A : EndOk11 At) (n : Int) (w : World) (hn : -9223372036854775808 ≤ n ∧ n < 9223372036854775808) :
    Calls Try.prog 3 #[.int .i64 n] w fun e w' => e = .returned (.bool true) ∧ Below w.heap.size w w' := by
  go_enter Try.func3, Try.ntmps3
  go_wp2_with fail
  refine (A.new n w hn).mono ?_
  rintro e w1 h1
  have HN1 : Hid (NewT11 At n w e w1) := h1
  rcases h1 with ⟨hb, rfl, k1⟩ | ⟨hb, g, T, rfl, -, k1, -⟩
  · go_wp2_with fail
    refine (r11new_any n w1).mono ?_
    rintro e w2 h2
    rcases h2 with ⟨-, rfl, k2⟩ | ⟨hc, -⟩
    · go_wp2_with fail
      refine (A.new 1 w2 (by omega)).mono ?_
      rintro e w3 h3
      rcases h3 with ⟨hd, -⟩ | ⟨-, g3, T3, rfl, -, k3, -⟩
      · exact absurd hd (by decide)
      · have hBB := bthen k1 (bthen k2 k3)
        go_wp2
        go_ret
        exact ⟨rfl, hBB⟩
    · rw [hb] at hc
      cases hc
  · go_wp2_with fail
    refine (r11new_any n w1).mono ?_
    rintro e w2 h2
    rcases h2 with ⟨hc, -⟩ | ⟨-, g2, T2, rfl, -, k2, -⟩
    · rw [hb] at hc
      cases hc
    · go_wp2_with fail
      refine (A.new 1 w2 (by omega)).mono ?_
      rintro e w3 h3
      rcases h3 with ⟨hd, -⟩ | ⟨-, g3, T3, rfl, -, k3, -⟩
      · exact absurd hd (by decide)
      · have hBB := bthen k1 (bthen k2 k3)
        go_wp2
        go_ret
        exact ⟨rfl, hBB⟩
end Go.Proofs.Ytjokbikelklaiaa

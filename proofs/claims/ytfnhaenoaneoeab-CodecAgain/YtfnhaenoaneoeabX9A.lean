/-
  Contracts of the program's Number, Int and Bytes (codec).
-/
import Derived.Test.YtfnhaenoaneoeabP9LawsO
import Derived.Test.YtfnhaenoaneoeabC9Back
namespace Go.Proofs.Ytfnhaenoaneoeab
open Go.RowKit

set_option maxRecDepth 20000 in
set_option maxHeartbeats 1600000 in
theorem c9number_any (n : Nat) (w : World) (hn : n < 18446744073709551616) : Calls Try.prog 7 #[.int .u64 n] w fun e w' => CodeT n w e w' := by
  have HN : Hid (n < 18446744073709551616) := hn
  go_enter Try.func7, Try.ntmps7
  go_wp2
  go_loopw [0, 3] (fun v0 v3 wr => ∃ (m : Nat) (out : List Int), v0 = .int .u64 m ∧ BOwn wr w.heap.size v3 out ∧ Hid (m < 18446744073709551616 ∧ ∀ c, IsCode c m → IsCode (out ++ c) n) ∧ Below w.heap.size w wr) (fun v0 _ _ => (intOf v0).toNat)
  case atStart => exact ⟨n, [], rfl, BOwn.nil _ _, ⟨hn, fun c hc => hc⟩, Below.refl _ _⟩
  case round =>
    clear hn
    obtain ⟨m, out, rfl, hown, HI, hbr⟩ := hrel
    have hm := HI.out.1
    have hol : out.length < 1000000 := by
      obtain ⟨c, hc⟩ := code_any hm
      have := code_10 (HI.out.2 c hc) HN.out
      simp at this
      omega
    have hsz := hbr.size
    by_cases hge : 128 ≤ m
    · have hgi : (128 : Int) ≤ (m : Int) := by omega
      have HS : Hid (m / 128 < 18446744073709551616 ∧ ∀ c, IsCode c (m / 128) → IsCode ((out ++ [((m % 128 : Nat) : Int) + 128]) ++ c) n) := ⟨by omega, fun c hc => by
        rw [List.append_assoc]
        exact HI.out.2 _ (IsCode.cons hc.nonempty rfl (by omega) hc)⟩
      clear HI
      have hy : 0 ≤ (m : Int) % 128 ∧ (m : Int) % 128 < 128 := by omega
      go_wp2_with (at_builtin; refine wpList_appB1 _ rfl _ _ 22 rfl Try.underlying22 w.heap.size _ _ rfl (hown.alloc _) ⟨wr.heap.size, 0, none⟩ ((m : Int) % 128 + 128) rfl ?c1 hol w ?c2 ?c3 ?_)
      case c1 => simp
      case c2 => simp; omega
      case c3 => exact hbr.alloc hbr.size _
      intro v' w2 hown2 hb2
      clear hown hbr
      go_wp2
      go_roundw
      case rel => exact ⟨m / 128, _, by simp, hown2, by
        have e : (m : Int) % 128 + 128 = ((m % 128 : Nat) : Int) + 128 := by omega
        rw [e]
        exact HS, hb2⟩
      case measure => simp [intOf]; omega
    · have hgi : decide ((128 : Int) ≤ (m : Int)) = false := decide_eq_false (by omega)
      have HS : Hid (IsCode (out ++ [(m : Int)]) n) := HI.out.2 _ ⟨rfl, by omega⟩
      clear HI
      have hy : 0 ≤ (m : Int) ∧ (m : Int) < 256 := by omega
      go_wp2_with (at_builtin; refine wpList_appB1 _ rfl _ _ 22 rfl Try.underlying22 w.heap.size _ _ rfl (hown.alloc _) ⟨wr.heap.size, 0, none⟩ (m : Int) rfl ?c1 hol w ?c2 ?c3 ?_)
      case c1 => simp
      case c2 => simp; omega
      case c3 => exact hbr.alloc hbr.size _
      intro v' w2 hown2 hb2
      clear hown hbr
      go_wp2
      go_ret
      exact ⟨v', _, rfl, hown2, HS.out, hb2⟩
theorem c9number_z (z : Int) (n : Nat) (hz : z = (n : Int)) (w : World) (hn : n < 18446744073709551616) : Calls Try.prog 7 #[.int .u64 z] w fun e w' => CodeT n w e w' := by
  subst hz
  exact c9number_any n w hn

theorem codeR9 {P : List Int → Prop} {w w' : World} {v : Value} {c : List Int} (h : BOwn w' w.heap.size v c) (hd : Digs 256 c) (hP : P c) (hb : Below w.heap.size w w') : CodeR P w (.returned v) w' := by
  obtain ⟨a, n, cp, rfl, hB, -, nn⟩ := h.fresh hd
  exact ⟨a, n, cp, c, rfl, hB, hP, nil9 nn, hb⟩
theorem num_ok9 : NumOk9 := fun n w hn => (c9number_any n w hn).mono fun e w' ⟨v, c, he, h1, h2, h3⟩ => by
  subst he
  exact codeR9 h1 h2.digs h2 h3
end Go.Proofs.Ytfnhaenoaneoeab

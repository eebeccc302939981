/-
  Contracts of the document's Number, zigzag, Int and Bytes (codec).
-/
import Derived.Test.YtpoipobmkfphcaaC9Own
namespace Go.Proofs.Ytpoipobmkfphcaa
open Go.RowKit

/-- What a call that makes the code of a number makes: a row of its own. -/
def CodeT (n : Nat) (w : World) (e : Ending) (w' : World) : Prop := ∃ v c, e = .returned v ∧ BOwn w' w.heap.size v c ∧ IsCode c n ∧ Below w.heap.size w w'
theorem code_10 {c : List Int} {n : Nat} (h : IsCode c n) (hn : n < 18446744073709551616) : c.length ≤ 10 :=
  h.len (by have : (128 : Nat) ^ 10 = 1180591620717411303424 := by decide
            omega) (by omega)
theorem code_any {n : Nat} (hn : n < 18446744073709551616) : ∃ c, IsCode c n := code_ex 9 n (by
  have : (128 : Nat) ^ 10 = 1180591620717411303424 := by decide
  show n < 128 ^ 10
  omega)

set_option maxRecDepth 20000 in
set_option maxHeartbeats 1600000 in
theorem r9number_any (n : Nat) (w : World) (hn : n < 18446744073709551616) : Calls Try.prog 24 #[.int .u64 n] w fun e w' => CodeT n w e w' := by
  have HN : Hid (n < 18446744073709551616) := hn
  go_enter Try.func24, Try.ntmps24
  go_wp2
  go_loopw [0, 3] (fun v0 v3 wr => ∃ (m : Nat) (out : List Int), v0 = .int .u64 m ∧ BOwn wr w.heap.size v3 out ∧ Hid (m < 18446744073709551616 ∧ ∀ c, IsCode c m → IsCode (out ++ c) n) ∧ Below w.heap.size w wr) (fun v0 _ _ => (intOf v0).toNat)
  case atStart => exact ⟨n, [], rfl, BOwn.nil _ _, ⟨hn, fun c hc => hc⟩, Below.refl _ _⟩
  case round =>
    clear hn
    obtain ⟨m, out, rfl, hown, HI, hbr⟩ := hrel
    have hm := HI.out.1
    have hol : out.length < 1000000 := by
      obtain ⟨c, hc⟩ := code_any hm
      have := code_10 (HI.out.2 c hc) HN.out
      simp at this
      omega
    have hsz := hbr.size
    by_cases hge : 128 ≤ m
    · have hgi : (128 : Int) ≤ (m : Int) := by omega
      have HS : Hid (m / 128 < 18446744073709551616 ∧ ∀ c, IsCode c (m / 128) → IsCode ((out ++ [((m % 128 : Nat) : Int) + 128]) ++ c) n) := ⟨by omega, fun c hc => by
        rw [List.append_assoc]
        exact HI.out.2 _ (IsCode.cons hc.nonempty rfl (by omega) hc)⟩
      clear HI
      have hy : 0 ≤ (m : Int) % 128 + 128 ∧ (m : Int) % 128 + 128 < 256 := by omega
      go_wp2_with (at_builtin; refine wpList_appB1 _ rfl _ _ 22 rfl Try.underlying22 w.heap.size _ _ rfl (hown.alloc _) ⟨wr.heap.size, 0, none⟩ ((m : Int) % 128 + 128) rfl ?c1 hol w ?c2 ?c3 ?_)
      case c1 => simp
      case c2 => simp; omega
      case c3 => exact hbr.alloc hbr.size _
      intro v' w2 hown2 hb2
      clear hown hbr
      go_wp2
      go_roundw
      case rel => exact ⟨m / 128, _, by simp, hown2, by
        have e : (m : Int) % 128 + 128 = ((m % 128 : Nat) : Int) + 128 := by omega
        rw [e]
        exact HS, hb2⟩
      case measure => simp [intOf]; omega
    · have hgi : decide ((128 : Int) ≤ (m : Int)) = false := decide_eq_false (by omega)
      have HS : Hid (IsCode (out ++ [(m : Int)]) n) := HI.out.2 _ ⟨rfl, by omega⟩
      clear HI
      have hy : 0 ≤ (m : Int) ∧ (m : Int) < 256 := by omega
      go_wp2_with (at_builtin; refine wpList_appB1 _ rfl _ _ 22 rfl Try.underlying22 w.heap.size _ _ rfl (hown.alloc _) ⟨wr.heap.size, 0, none⟩ (m : Int) rfl ?c1 hol w ?c2 ?c3 ?_)
      case c1 => simp
      case c2 => simp; omega
      case c3 => exact hbr.alloc hbr.size _
      intro v' w2 hown2 hb2
      clear hown hbr
      go_wp2
      go_ret
      exact ⟨v', _, rfl, hown2, HS.out, hb2⟩

/-- A whole number as a number. -/
def zig (x : Int) : Nat := if 0 ≤ x then (2 * x).toNat else (-2 * x - 1).toNat
theorem zig_lt {x : Int} (h : -9223372036854775808 ≤ x ∧ x < 9223372036854775808) : zig x < 18446744073709551616 := by
  unfold zig
  split <;> omega

/-- What a call that makes the code of bytes makes: a row of its own. -/
def CodeB (bs : List Int) (w : World) (e : Ending) (w' : World) : Prop := ∃ v c, e = .returned v ∧ BOwn w' w.heap.size v (c ++ bs) ∧ IsCode c bs.length ∧ Below w.heap.size w w'

set_option maxHeartbeats 800000 in
theorem r9bytes_any (a : Option Addr) (la ca : Nat) (bs : List Int) (w : World) (h : Byts w a la ca bs) (hnil : a = none → ca = 0) (hlen : la ≤ 140737488355300) : Calls Try.prog 25 #[.slice a la ca] w fun e w' => CodeB bs w e w' := by
  have hl := h.hlen
  have hcap := h.hcap
  have hmax := h.hmax
  unfold maxLen at hmax
  have HL : Hid (bs.length = la) := hl
  clear hl
  go_enter Try.func25, Try.ntmps25
  go_wp2_with fail
  refine (r9number_any la _ (by omega)).mono ?_
  rintro e w1 ⟨v, c, rfl, h1, h2, h3⟩
  have hc := code_10 h2 (by omega)
  have hb1 := h.below h3
  have H2 : Hid (IsCode c bs.length) := by show IsCode _ _; rw [HL.out]; exact h2
  clear h h2
  go_wp2_with (at_builtin; refine wpList_appBW _ rfl _ _ 22 rfl Try.underlying22 w.heap.size _ c rfl h1 a la ca bs rfl hb1 hnil ?c1 w ?c2 h3 ?_)
  case c1 => omega
  case c2 => exact h3.size
  intro v' w2 hown2 hb2 _
  clear h1 h3 hb1
  go_wp2
  go_ret
  exact ⟨v', c, rfl, hown2, H2.out, hb2⟩
end Go.Proofs.Ytpoipobmkfphcaa

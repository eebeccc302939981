/-
  What stage 12's laws ask of the program's functions; a party is ready.
-/
import Derived.Test.YtnbdbahfekneoaaP12Open
import Derived.Test.YtnbdbahfekneoaaR12D
import Derived.Test.YtnbdbahfekneoaaRef12E
import Derived.Test.YtnbdbahfekneoaaRef12H
namespace Go.Proofs.Ytnbdbahfekneoaa
open Go.RowKit

/-- A message as an argument. -/
abbrev msgV (k a b c : Int) (pi : Option Addr) (li ci : Nat) (pr : Option Addr) (lr cr : Nat) (pn : Option Addr) (ln cn : Nat) : Value := .agg #[.int .i64 k, .int .i64 a, .int .i64 b, .int .i64 c, .slice pi li ci, .slice pr lr cr, .slice pn ln cn]
def RgtOk12 : Prop := ∀ (k a b c : Int) (pi : Option Addr) (li ci : Nat) (pr : Option Addr) (lr cr : Nat) (pn : Option Addr) (ln cn : Nat) (ids rows : List Int) (nats : List (List Int)) (w : World), MsgIn w k a b c pi li ci pr lr cr pn ln cn ids rows nats → Calls Try.prog 9 #[.agg #[.int .i64 k, .int .i64 a, .int .i64 b, .int .i64 c, .slice pi li ci, .slice pr lr cr, .slice pn ln cn]] w fun e w' => RgtT k a b c ids rows nats w e w'
def EncOk12 : Prop := ∀ (k a b c : Int) (pi : Option Addr) (li ci : Nat) (pr : Option Addr) (lr cr : Nat) (pn : Option Addr) (ln cn : Nat) (ids rows : List Int) (nats : List (List Int)) (w : World), MsgIn w k a b c pi li ci pr lr cr pn ln cn ids rows nats → Calls Try.prog 11 #[.agg #[.int .i64 k, .int .i64 a, .int .i64 b, .int .i64 c, .slice pi li ci, .slice pr lr cr, .slice pn ln cn]] w fun e w' => WireT k a b c ids rows nats w e w'
def DecOk12 : Prop := ∀ (b : Option Addr) (lb cb : Nat) (L : List Int) (w : World), Byts w b lb cb L → (b = none → cb = 0) → lb ≤ 140737488355300 → Calls Try.prog 13 #[.slice b lb cb] w fun e w' => MDecT L w e w'

theorem MsgIn.small (w : World) (k a b c : Int) (h : (-9223372036854775808 ≤ k ∧ k < 9223372036854775808) ∧ (-9223372036854775808 ≤ a ∧ a < 9223372036854775808) ∧ (-9223372036854775808 ≤ b ∧ b < 9223372036854775808) ∧ -9223372036854775808 ≤ c ∧ c < 9223372036854775808) : MsgIn w k a b c none 0 0 none 0 0 none 0 0 [] [] [] :=
  ⟨Lsts.nil _, Lsts.nil _, NRow.nil _, h, ⟨Nat.zero_le _, Nat.zero_le _, Nat.zero_le _⟩, ⟨fun _ => rfl, fun _ => rfl, fun _ => rfl⟩⟩
theorem msg_242 : RightM 2 4 2 0 [] [] [] ∧ IsMsg 2 4 2 0 [] [] [] [2, 4, 2, 0, 0, 0, 0] := by
  refine ⟨⟨by decide, by decide, by decide, by decide, by decide, fun i hi => by simp at hi, fun i hi => by simp at hi, fun i hi => by simp at hi⟩, [], ⟨rfl, fun i hi => by simp at hi⟩, ?_⟩
  have z0 : IsLst [] [0] := ⟨[0], [], ⟨rfl, by decide⟩, rfl, rfl⟩
  have b0 : IsBlobs [] [0] := ⟨[0], [], ⟨rfl, by decide⟩, rfl, rfl⟩
  exact ⟨[2, 4, 2, 0], [0], [0], [0], ⟨[2], [4, 2, 0], ⟨rfl, by decide⟩, ⟨[4], [2, 0], ⟨rfl, by decide⟩, ⟨[2], [0], ⟨rfl, by decide⟩, ⟨[0], [], ⟨rfl, by decide⟩, rfl, rfl⟩, rfl⟩, rfl⟩, rfl⟩, z0, z0, b0, rfl⟩
theorem wire_242 {ys : List Int} {err : Int} (h : ResWire 2 4 2 0 [] [] [] ys err) : ys = [2, 4, 2, 0, 0, 0, 0] ∧ err = 0 :=
  h.unique (.inl ⟨msg_242.1, msg_242.2, by decide, rfl⟩)
theorem byts_242 (w : World) : Byts (w.alloc (.cells #[.int .u8 2, .int .u8 4, .int .u8 2, .int .u8 0, .int .u8 0, .int .u8 0, .int .u8 0] 5)) (some ⟨w.heap.size, 0, none⟩) 7 7 [2, 4, 2, 0, 0, 0, 0] := by
  refine BBlk.byts ⟨_, heap_alloc_new w _, ?_⟩ (fun x hx => by simp at hx; omega) rfl (by decide)
  rfl
set_option maxRecDepth 100000 in
set_option maxHeartbeats 6000000 in
theorem awake12 (HE : EncOk12) (w : World) : Calls Try.prog 8 #[] w fun e w' => e = .returned (.bool true) ∧ Below w.heap.size w w' := by
  have HE' := (show Hid _ from HE 2 4 2 0 none 0 0 none 0 0 none 0 0 [] [] [] w (MsgIn.small _ _ _ _ _ (by decide)))
  go_enter Try.func8, Try.ntmps8
  go_wp2_with fail
  refine Calls.mono HE'.out ?_
  rintro e w1 ⟨xa, xl, xc, xs, xe, rfl, hX, hx, -, hb1⟩
  obtain ⟨rfl, rfl⟩ := wire_242 hx
  obtain ⟨S, hS⟩ : ∃ S, S = strOf [2, 4, 2, 0, 0, 0, 0] := ⟨_, rfl⟩
  have q1 := conv_any hX
  have hv := balloc w1 (.cells #[.int .u8 2, .int .u8 4, .int .u8 2, .int .u8 0, .int .u8 0, .int .u8 0, .int .u8 0] 5)
  have q3 := conv_any (hX.below hv)
  have q2 := conv_any (byts_242 w1)
  rw [← hS] at q1 q2 q3
  have hB := bthen hb1 hv
  clear HE' hx hX hb1 hv hS
  go_wp2
  go_ret
  exact ⟨by simp, hB⟩
end Go.Proofs.Ytnbdbahfekneoaa

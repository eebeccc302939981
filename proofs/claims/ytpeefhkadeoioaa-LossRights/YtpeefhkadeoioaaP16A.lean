/-
  Stage 16's laws: awake. Written by mk/p16.py.
-/
import Derived.Test.YtpeefhkadeoioaaP16O
namespace Go.Proofs.Ytpeefhkadeoioaa
open Go.RowKit

def plain16 : Cfg := ⟨1, 1, 1, 0, 1, 2, 0, 0⟩
theorem plain16_ok : CfgOk plain16 := ⟨by decide, by decide, by decide, by decide, by decide, by decide, .inl ⟨rfl, rfl⟩⟩
set_option maxRecDepth 20000 in
set_option maxHeartbeats 3200000 in
theorem plain16_any (w : World) : Calls Try.prog 15 #[] w fun e w' => e = .returned (.agg #[.int .i64 1, .int .i64 1, .int .i64 1, .int .i64 0, .int .i64 1, .int .i64 2, .int .i64 0, .int .i64 0]) ∧ Below w.heap.size w w' := by
  have HB := (show Hid _ from balloc w (.cells #[.int .i64 1, .int .i64 1, .int .i64 1, .int .i64 0, .int .i64 1, .int .i64 2, .int .i64 0, .int .i64 0] 23))
  have hR := heap_alloc_new w (.cells #[.int .i64 1, .int .i64 1, .int .i64 1, .int .i64 0, .int .i64 1, .int .i64 2, .int .i64 0, .int .i64 0] 23)
  have c : ∀ j, (w.alloc (.cells #[.int .i64 1, .int .i64 1, .int .i64 1, .int .i64 0, .int .i64 1, .int .i64 2, .int .i64 0, .int .i64 0] 23)).cell? ⟨w.heap.size, j, none⟩ = (#[.int .i64 1, .int .i64 1, .int .i64 1, .int .i64 0, .int .i64 1, .int .i64 2, .int .i64 0, .int .i64 0] : Array Value)[j]? := fun j => by rw [cell_of_row _ _ _ _ _ _ hR]
  have c0 := c 0
  have c1 := c 1
  have c2 := c 2
  have c3 := c 3
  have c4 := c 4
  have c5 := c 5
  have c6 := c 6
  have c7 := c 7
  clear hR c
  go_enter Try.func15, Try.ntmps15
  go_wp2
  exact bodyPost_ret (v := .agg #[.int .i64 1, .int .i64 1, .int .i64 1, .int .i64 0, .int .i64 1, .int .i64 2, .int .i64 0, .int .i64 0]) (by simp [results, Try.results15, go_sem]) rfl ⟨rfl, HB.out⟩
def AwakeT16 (w : World) (e : Ending) (w' : World) : Prop := e = .returned (.bool true) ∧ Below w.heap.size w w'
set_option maxRecDepth 20000 in
set_option maxHeartbeats 3200000 in
theorem awake16_any (OG : GrdOk16) (w : World) : Calls Try.prog 8 #[] w fun e w' => AwakeT16 w e w' := by
  have HP := (show Hid _ from plain16_any w)
  have HG : Hid (∀ wx : World, Calls Try.prog 11 #[.agg #[.int .i64 1, .int .i64 1, .int .i64 1, .int .i64 0, .int .i64 1, .int .i64 2, .int .i64 0, .int .i64 0], .int .i64 7, .int .i64 3] wx fun e w' => e = .returned (.tuple #[.int .i64 4, .int .i64 0]) ∧ Below wx.heap.size wx w') := fun wx => (OG plain16 7 3 wx ⟨by decide, by decide, by decide, by decide, by decide, by decide, by decide, by decide⟩ (by decide) (by decide)).mono fun e w' q => by
    obtain ⟨g, err, q1, q2, q3⟩ := q
    have k : ResGrad plain16 7 3 4 0 := .inr ⟨⟨plain16_ok, by decide, by decide, by decide, by decide⟩, by decide, rfl⟩
    obtain ⟨rfl, rfl⟩ := q2.unique k
    exact ⟨q1, q3⟩
  go_enter Try.func8, Try.ntmps8
  go_wp2_with fail
  refine Calls.mono HP.out ?_
  rintro e w1 ⟨rfl, hb1⟩
  have HB : Hid (Below w.heap.size w w1) := hb1
  clear HP hb1
  dsimp only
  go_wp2_with fail
  refine Calls.mono (HG.out _) ?_
  rintro e w2 ⟨rfl, hb2⟩
  have HT : Hid (Below w.heap.size w w2) := bthen HB.out hb2
  clear HG HB hb2
  dsimp only
  go_wp2
  go_ret
  exact ⟨rfl, HT.out⟩
end Go.Proofs.Ytpeefhkadeoioaa

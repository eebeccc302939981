/-
  The contract of the program's kinds (wire): a table of what each kind has.
-/
import Derived.Test.YtnbdbahfekneoaaX12A
import Derived.Deep.WholeRow
import Derived.Great.BuildSlice
namespace Go.Proofs.Ytnbdbahfekneoaa
open Go.RowKit

/-- What each kind has, one behind the other. -/
def kindL0 : List Value := [.int .i64 0, .int .i64 0, .int .i64 0, .int .i64 0, .int .i64 0, .int .i64 0, .int .i64 0, .int .i64 0, .int .i64 0, .bool false]
def kindL1 : List Value := [.int .i64 1073741824, .int .i64 1073741824, .int .i64 0, .int .i64 0, .int .i64 0, .int .i64 0, .int .i64 0, .int .i64 1, .int .i64 1, .bool false]
def kindL2 : List Value := [.int .i64 1073741824, .int .i64 1073741824, .int .i64 0, .int .i64 0, .int .i64 0, .int .i64 0, .int .i64 0, .int .i64 0, .int .i64 0, .bool false]
def kindL3 : List Value := [.int .i64 1073741824, .int .i64 0, .int .i64 0, .int .i64 0, .int .i64 0, .int .i64 0, .int .i64 0, .int .i64 0, .int .i64 16384, .bool false]
def kindL4 : List Value := [.int .i64 1073741824, .int .i64 1073741824, .int .i64 0, .int .i64 0, .int .i64 0, .int .i64 0, .int .i64 16384, .int .i64 0, .int .i64 0, .bool false]
def kindL5 : List Value := [.int .i64 1073741824, .int .i64 1073741824, .int .i64 0, .int .i64 0, .int .i64 16384, .int .i64 0, .int .i64 0, .int .i64 0, .int .i64 16384, .bool true]
def kindL6 : List Value := [.int .i64 1073741824, .int .i64 1073741824, .int .i64 0, .int .i64 1, .int .i64 16384, .int .i64 0, .int .i64 0, .int .i64 0, .int .i64 0, .bool false]
def kindL7 : List Value := [.int .i64 1073741824, .int .i64 1073741824, .int .i64 1073741824, .int .i64 0, .int .i64 0, .int .i64 0, .int .i64 16384, .int .i64 0, .int .i64 0, .bool false]
def kindL8 : List Value := [.int .i64 1073741824, .int .i64 1073741824, .int .i64 0, .int .i64 0, .int .i64 0, .int .i64 0, .int .i64 0, .int .i64 0, .int .i64 0, .bool false]
def kindL9 : List Value := [.int .i64 1073741824, .int .i64 1073741824, .int .i64 1, .int .i64 0, .int .i64 0, .int .i64 0, .int .i64 0, .int .i64 0, .int .i64 0, .bool false]
def kindL10 : List Value := [.int .i64 1073741824, .int .i64 0, .int .i64 0, .int .i64 0, .int .i64 0, .int .i64 0, .int .i64 0, .int .i64 0, .int .i64 0, .bool false]
def kindL11 : List Value := [.int .i64 1073741824, .int .i64 0, .int .i64 0, .int .i64 0, .int .i64 0, .int .i64 0, .int .i64 0, .int .i64 0, .int .i64 0, .bool false]
def kindsA : Array Value := (kindL0 ++ kindL1 ++ kindL2 ++ kindL3 ++ kindL4 ++ kindL5 ++ kindL6 ++ kindL7 ++ kindL8 ++ kindL9 ++ kindL10 ++ kindL11).toArray
theorem kinds_size : kindsA.size = 120 := by rfl
theorem kinds_one : kindsA.all (·.oneCell') = true := by kernel_rfl
theorem zeros12_size : Try.zeroCells74.size = 120 := by kernel_rfl
set_option maxRecDepth 100000 in
set_option maxHeartbeats 3200000 in
theorem x12kinds_any (w : World) : Calls Try.prog 41 #[] w fun e w' => e = .returned (.agg kindsA) ∧ Below w.heap.size w w' := by
  have HI : (Try.prog.info? 74).map (·.size) = some kindsA.size := by kernel_rfl
  have B1 := balloc w (.cells Try.zeroCells74 74)
  have N1 : (w.alloc (.cells Try.zeroCells74 74)).heap[w.heap.size]? = some (.cells Try.zeroCells74 74 (0, 0)) := heap_alloc_new _ _
  have HG := setRow_heap (w.alloc (.cells Try.zeroCells74 74)) w.heap.size _ kindsA 74 (0, 0) N1
  have HB : Hid (Below w.heap.size w ((w.alloc (.cells Try.zeroCells74 74)).setRow w.heap.size kindsA)) := below_setRow B1 (Nat.le_refl _) _
  have hs : Try.zeroCells74.size = kindsA.size := by rw [kinds_size, zeros12_size]
  clear B1
  go_enter Try.func41, Try.ntmps41
  go_wp2_with (first
    | refine wpList_buildTo rfl 74 _ rfl _ rfl kindsA (by kernel_rfl) ?_
    | refine wpList_store_rowTo rfl 74 _ _ rfl rfl w.heap.size kindsA rfl rfl 74 _ N1 HI hs kinds_one ?_)
  refine bodyPost_ret (results_cell_row rfl _ _ w.heap.size 74 kindsA (0, 0) _ rfl HG Try.underlying74 rfl HI) rfl ?_
  exact ⟨rfl, HB.out⟩
end Go.Proofs.Ytnbdbahfekneoaa

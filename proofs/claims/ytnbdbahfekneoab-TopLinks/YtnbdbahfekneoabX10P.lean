/-
  Contracts of the program's step, eightSteps, Sum and sumBytes (frame).
  Contracts of the program's isCount, mayBe, kind (frame) and of slices.Equal of bytes.
  The contract of slices.Equal of bytes.
  The contract of the program's Encode (frame).
  What the readings of a frame's parts tell; the contract of the program's read (frame).
  The contract of the program's Decode (frame).
-/
import Derived.Test.YtnbdbahfekneoabR10B
import Derived.Deep.WholeRow
import Derived.BigQuiet
import Derived.Test.YtnbdbahfekneoabC9C
import Derived.Test.YtnbdbahfekneoabX9P
import Derived.Deep.RegionHeld3
namespace Go.Proofs.Ytnbdbahfekneoab
open Go.RowKit

set_option maxHeartbeats 800000 in
theorem f10step_any (q : Nat) (w : World) (hq : q < 4294967296) : Calls Try.prog 73 #[.int .u32 q] w fun e w' => e = .returned (.int .u32 ((stepC q : Nat) : Int)) ∧ w = w' := by
  by_cases ho : q % 2 = 1
  · have hoi : (q : Int) % 2 = 1 := by omega
    have HX : Hid (bits .xor .u32 ((q : Int) / 2) 3988292384 = ((stepC q : Nat) : Int)) := bits_step hq ho
    clear ho
    go_enter Try.func73, Try.ntmps73
    go_wp2
    go_ret
    exact ⟨ret_int HX.out, rfl⟩
  · have hoi : ((q : Int) % 2 == 1) = false := by simp; omega
    have HX : Hid ((q : Int) / 2 = ((stepC q : Nat) : Int)) := step_even ho
    clear ho
    go_enter Try.func73, Try.ntmps73
    go_wp2
    go_ret
    exact ⟨ret_int HX.out, rfl⟩

/-- A table of 256 numbers in memory. -/
def Tab10 (w : World) (g : Nat) (cur : Array Value) : Prop := w.heap[g]? = some (.cells cur 120 (0, 0)) ∧ cur.size = 256 ∧ ∀ j, j < 256 → ∃ x : Int, cur[j]? = some (.int .u32 x)
theorem Tab10.lt {w : World} {g : Nat} {cur : Array Value} (h : Tab10 w g cur) : g < w.heap.size := (Array.getElem?_eq_some_iff.1 h.1).1
theorem Tab10.cell {w : World} {g : Nat} {cur : Array Value} (h : Tab10 w g cur) (j : Nat) : w.cell? ⟨g, j, none⟩ = cur[j]? := cell_of_row _ _ _ _ _ _ h.1
theorem Tab10.frozen {w : World} {g : Nat} {cur : Array Value} (h : Tab10 w g cur) (j : Nat) : w.frozen? ⟨g, j, none⟩ = false := frozen_of_row _ _ _ _ _ h.1
theorem Tab10.one {w : World} {g : Nat} {cur : Array Value} (h : Tab10 w g cur) : cur.all (·.oneCell') = true := by
  rw [Array.all_eq_true_iff_forall_mem]
  intro x hx
  obtain ⟨j, hj, rfl⟩ := Array.getElem_of_mem hx
  obtain ⟨y, hy⟩ := h.2.2 j (by rw [← h.2.1]; exact hj)
  rw [Array.getElem?_eq_getElem hj] at hy
  simp only [Option.some.injEq] at hy
  rw [hy]; rfl
theorem Tab10.below {w w' : World} {g : Nat} {cur : Array Value} (h : Tab10 w g cur) (hb : Below w.heap.size w w') : Tab10 w' g cur := ⟨(hb.block g h.lt).trans h.1, h.2⟩
theorem Tab10.set {w : World} {g : Nat} {cur : Array Value} (h : Tab10 w g cur) (i : Nat) (x : Int) : Tab10 (w.setCell ⟨g, i, none⟩ (.int .u32 x)) g (cur.setIfInBounds i (.int .u32 x)) := by
  refine ⟨heap_setCell_same w g i _ _ _ h.1, by rw [Array.size_setIfInBounds]; exact h.2.1, fun j hj => ?_⟩
  by_cases e : i = j
  · subst e
    exact ⟨x, Array.getElem?_setIfInBounds_self_of_lt (by rw [h.2.1]; exact hj)⟩
  · obtain ⟨y, hy⟩ := h.2.2 j hj
    exact ⟨y, by rw [Array.getElem?_setIfInBounds_ne e]; exact hy⟩
theorem Tab10.other {w : World} {g k : Nat} {cur : Array Value} (h : Tab10 w g cur) (hk : g ≠ k) (i : Nat) (v : Value) : Tab10 (w.setCell ⟨k, i, none⟩ v) g cur := ⟨(heap_setCell_other w ⟨k, i, none⟩ g v hk).trans h.1, h.2⟩
def zeros10 : Array Value := Array.replicate 256 (.int .u32 0)
theorem Tab10.new (w : World) : Tab10 (w.alloc (.cells zeros10 120)) w.heap.size zeros10 :=
  ⟨heap_alloc_new _ _, by unfold zeros10; simp, fun j hj => ⟨0, by unfold zeros10; simp [hj]⟩⟩
theorem Try.info10 : (Try.prog.info? 120).map (fun i => (i.zero, i.size)) = some (some (.agg zeros10), 256) := by kernel_rfl

set_option maxRecDepth 20000 in
set_option maxHeartbeats 1600000 in
theorem f10table_any (w : World) : Calls Try.prog 70 #[] w fun e w' => ∃ cur : Array Value, e = .returned (.agg cur) ∧ cur.size = 256 ∧ (∀ j, j < 256 → cur[j]? = some (.int .u32 ((stepsC 8 j : Nat) : Int))) ∧ Below w.heap.size w w' := by
  obtain ⟨zv, zs⟩ := zero_of_info Try.info10
  have N1 := Tab10.new w
  have N2 := Tab10.new (w.alloc (.cells zeros10 120))
  have B1 := balloc w (.cells zeros10 120)
  have B2 := balloc (w.alloc (.cells zeros10 120)) (.cells zeros10 120)
  replace N1 := N1.below B2
  rw [World.size_alloc] at N2
  have B12 := bthen B1 B2
  generalize zeros10 = Z at *
  clear B1 B2
  go_enter Try.func70, Try.ntmps70
  go_wp2
  go_loopw [4] (fun v4 wr => ∃ i : Nat, i ≤ 256 ∧ v4 = .int .u32 i ∧ ∃ cur, Tab10 wr (w.heap.size + 1) cur ∧ (∃ c0, Tab10 wr w.heap.size c0) ∧ Hid (∀ j, j < i → cur[j]? = some (.int .u32 ((stepsC 8 j : Nat) : Int))) ∧ Below w.heap.size w wr) (fun v4 _ => 256 - (intOf v4).toNat)
  case atStart => exact ⟨0, by omega, rfl, Z, N2, ⟨Z, N1⟩, fun j hj => by omega, B12⟩
  case round =>
    obtain ⟨i, hi, rfl, cur, hA, ⟨c0, hC⟩, HS, hbr⟩ := hrel
    clear N1 N2 B12
    have hlt0 := hA.lt
    by_cases hlt : i < 256
    · have hlti : (i : Int) < 256 := by omega
      have HA : Hid (Tab10 wr (w.heap.size + 1) cur ∧ Tab10 wr w.heap.size c0) := ⟨hA, hC⟩
      clear hA hC
      go_wp2
      go_loopw [3, 8] (fun v3 v8 wq => ∃ q k : Nat, v3 = .int .u32 q ∧ v8 = .int .i64 k ∧ k ≤ 8 ∧ Hid (q < 4294967296 ∧ stepsC (8 - k) q = stepsC 8 i) ∧ wr = wq) (fun _ v8 _ => 8 - (intOf v8).toNat)
      case atStart => exact ⟨i, 0, rfl, rfl, by omega, ⟨by omega, rfl⟩, rfl⟩
      case round =>
        obtain ⟨q, k, rfl, rfl, hk, HQ, rfl⟩ := hrel
        by_cases hk8 : k < 8
        · have hk8i : (k : Int) < 8 := by omega
          have HN : Hid (stepC q < 4294967296 ∧ stepsC (8 - (k + 1)) (stepC q) = stepsC 8 i) := ⟨stepC_lt HQ.out.1, by rw [← steps_on hk8]; exact HQ.out.2⟩
          go_wp2_with fail
          refine (f10step_any q _ HQ.out.1).mono ?_
          rintro e w2 ⟨rfl, rfl⟩
          generalize stepC q = q' at *
          clear HQ
          go_wp2
          go_roundw
          case rel => exact ⟨q', k + 1, rfl, by go_num, by omega, HN, by first | rfl | trivial⟩
          case measure => simp [intOf]; omega
        · obtain rfl : k = 8 := by omega
          have hq : stepsC 8 i = q := by
            have := HQ.out.2
            rw [show 8 - 8 = 0 by rfl] at this
            exact this.symm
          obtain ⟨x, hold⟩ := HA.out.1.2.2 i hlt
          have hc2 : wr.cell? ⟨w.heap.size + 1, i, none⟩ = some (.int .u32 x) := by rw [HA.out.1.cell]; exact hold
          have hf2 : wr.frozen? ⟨w.heap.size + 1, i, none⟩ = false := HA.out.1.frozen _
          have HP : Hid (Tab10 (wr.setCell ⟨w.heap.size + 1, i, none⟩ (.int .u32 q)) (w.heap.size + 1) (cur.setIfInBounds i (.int .u32 q)) ∧ Tab10 (wr.setCell ⟨w.heap.size + 1, i, none⟩ (.int .u32 q)) w.heap.size c0 ∧ (∀ j, j < i + 1 → (cur.setIfInBounds i (.int .u32 q))[j]? = some (.int .u32 ((stepsC 8 j : Nat) : Int))) ∧ Below w.heap.size w (wr.setCell ⟨w.heap.size + 1, i, none⟩ (.int .u32 q))) := by
            refine ⟨HA.out.1.set i q, HA.out.2.other (by omega) _ _, fun j hj => ?_, hbr.setCell (by simp) _⟩
            by_cases e : i = j
            · subst e
              rw [hq]
              exact Array.getElem?_setIfInBounds_self_of_lt (by rw [HA.out.1.2.1]; exact hlt)
            · rw [Array.getElem?_setIfInBounds_ne e]
              exact HS.out j (by omega)
          clear HQ hq hold HA HS hbr
          go_wp2
          go_roundw
          case rel => exact ⟨i + 1, by omega, by go_num, _, HP.out.1, ⟨c0, HP.out.2.1⟩, HP.out.2.2.1, HP.out.2.2.2⟩
          case measure => simp [intOf]; omega
    · obtain rfl : i = 256 := by omega
      have HX : Hid (cur.size = 256 ∧ (∀ j, j < 256 → cur[j]? = some (.int .u32 ((stepsC 8 j : Nat) : Int))) ∧ Below w.heap.size w (wr.setRow w.heap.size cur)) := ⟨hA.2.1, HS.out, below_setRow hbr (Nat.le_refl _) _⟩
      have HI : (Try.prog.info? 120).map (·.size) = some cur.size := by rw [hA.2.1]; exact zs
      have HG := setRow_heap wr w.heap.size c0 cur 120 (0, 0) hC.1
      clear zs
      go_wp2_with (first
        | refine wpList_load_row rfl 120 _ rfl (w.heap.size + 1) rfl 120 cur (0, 0) _ hA.1 Try.underlying120 rfl HI ?_
        | refine wpList_store_row rfl 120 _ _ rfl w.heap.size cur rfl rfl 120 c0 hC.1 HI (by rw [hC.2.1, hA.2.1]) hA.one ?_)
      refine bodyPost_ret (results_cell_row rfl _ _ w.heap.size 120 cur (0, 0) _ rfl HG Try.underlying120 rfl HI) rfl ?_
      exact ⟨cur, rfl, HX.out.1, HX.out.2.1, HX.out.2.2⟩

theorem bits_xor8 (a b : Nat) (ha : a < 256) (hb : b < 256) : bits .xor .u8 (a : Int) (b : Int) = ((a ^^^ b : Nat) : Int) := by
  have h : a ^^^ b < 256 := Nat.xor_lt_two_pow (n := 8) ha hb
  show IntKind.u8.wrap (((BitVec.ofInt 8 (a : Int) ^^^ BitVec.ofInt 8 (b : Int)).toNat : Nat) : Int) = _
  have e1 : (BitVec.ofInt 8 (a : Int)).toNat = a := by
    rw [BitVec.toNat_ofInt]
    omega
  have e2 : (BitVec.ofInt 8 (b : Int)).toNat = b := by
    rw [BitVec.toNat_ofInt]
    omega
  rw [BitVec.toNat_xor, e1, e2]
  simp only [IntKind.wrap, IntKind.signed, IntKind.bits]
  simp
  omega
/-- A byte's place in the table, and what the table makes of it. -/
theorem byte_at {r b : Nat} (hb : b < 256) : (r % 256 ^^^ b) = (r ^^^ b) % 256 := by
  have := Nat.xor_mod_two_pow (a := r) (b := b) (n := 8)
  rw [show (2 : Nat) ^ 8 = 256 by rfl, Nat.mod_eq_of_lt hb] at this
  exact this.symm
theorem byte_tab {r b : Nat} (hr : r < 4294967296) (hb : b < 256) : bits .xor .u32 ((r : Int) / 256) ((stepsC 8 (r % 256 ^^^ b) : Nat) : Int) = ((byteC r b : Nat) : Int) := by
  have h := bits_xor32 (r / 256) (stepsC 8 (r % 256 ^^^ b)) (by omega) (stepsC_lt 8 (by rw [byte_at hb]; omega))
  rw [show ((r : Int) / 256) = ((r / 256 : Nat) : Int) by omega, h, byteC_table hb, byte_at hb, Nat.xor_comm]

set_option maxRecDepth 20000 in
set_option maxHeartbeats 1600000 in
theorem f10sum_any (a : Option Addr) (la ca : Nat) (bs : List Int) (w : World) (h : Byts w a la ca bs) :
    Calls Try.prog 62 #[.slice a la ca] w fun e w' => e = .returned (.int .u32 (sumC bs : Int)) ∧ Below w.heap.size w w' := by
  obtain ⟨zv, zs⟩ := zero_of_info Try.info10
  have hl := h.hlen
  have hc := h.hcap
  have hm := h.hmax
  unfold maxLen at hm
  obtain ⟨R, hR⟩ : ∃ R, R = runC 4294967295 bs := ⟨_, rfl⟩
  have HR : Hid (R = runC 4294967295 bs) := hR
  have HS : Hid (sumC bs = R ^^^ 4294967295) := by show _ = _; rw [HR.out]; rfl
  have HL : Hid (bs.length = la) := hl
  obtain ⟨s, hs⟩ : ∃ s, s = sumC bs := ⟨_, rfl⟩
  rw [← hs] at HS ⊢
  clear hR hl hs
  go_enter Try.func62, Try.ntmps62
  go_wp2_with fail
  refine (f10table_any w).mono ?_
  rintro e w1 ⟨cur, rfl, hsz, hT, hb1⟩
  have hnew := Tab10.new w1
  have hB := bthen hb1 (balloc w1 (.cells zeros10 120))
  have hB3 := below_setRow hB (g := w1.heap.size) hb1.size cur
  have hcells : ∀ j, ((w1.alloc (.cells zeros10 120)).setRow w1.heap.size cur).cell? ⟨w1.heap.size, j, none⟩ = cur[j]? := fun j => cell_setRow_same _ _ _ _ _ _ _ hnew.1
  have HI : (Try.prog.info? 120).map (·.size) = some cur.size := by rw [hsz]; exact zs
  have hone : cur.all (·.oneCell') = true := Tab10.one (w := (w1.alloc (.cells cur 120))) (g := w1.heap.size) ⟨heap_alloc_new _ _, hsz, fun j hj => ⟨_, hT j hj⟩⟩
  have HT : Hid (∀ j, j < 256 → ((w1.alloc (.cells zeros10 120)).setRow w1.heap.size cur).cell? ⟨w1.heap.size, j, none⟩ = some (.int .u32 ((stepsC 8 j : Nat) : Int))) := fun j hj => (hcells j).trans (hT j hj)
  clear hcells hT hB hb1 zs
  have hz : zeros10.size = 256 := by unfold zeros10; simp
  generalize zeros10 = Z at *
  go_wp2_with (refine wpList_store_row rfl 120 _ _ rfl w1.heap.size cur rfl rfl 120 Z hnew.1 HI (by rw [hsz, hz]) hone ?_)
  obtain ⟨W, hW⟩ : ∃ W, W = (w1.alloc (.cells Z 120)).setRow w1.heap.size cur := ⟨_, rfl⟩
  have H : Hid (Byts W a la ca bs) := by show Byts _ _ _ _ _; rw [hW]; exact h.below hB3
  rw [← hW] at hB3 HT
  rw [← hW]
  clear hW hnew HI hone hz h zv hsz
  generalize w1.heap.size = g at *
  go_loopw [4, 10] (fun v4 v10 wr => ∃ r i : Nat, v4 = .int .u32 r ∧ v10 = .int .i64 i ∧ i ≤ la ∧ Hid (r < 4294967296 ∧ runC r (bs.drop i) = R) ∧ W = wr) (fun _ v10 _ => la - (intOf v10).toNat)
  case atStart => exact ⟨4294967295, 0, rfl, rfl, Nat.zero_le _, ⟨by decide, by rw [HR.out]; rfl⟩, rfl⟩
  case round =>
    obtain ⟨r, i, rfl, rfl, hi, HI, rfl⟩ := hrel
    by_cases hlt : i < la
    · have hlti : (i : Int) < (la : Int) := by omega
      obtain ⟨b, off, rfl, hcell⟩ := H.out.cells (by omega)
      have c0 := hcell i hlt
      have hbb := H.out.word (bs.getD i 0) (by
        have : i < bs.length := by rw [HL.out]; exact hlt
        simp [List.getD, this])
      obtain ⟨x, hx⟩ : ∃ x : Nat, (x : Int) = bs.getD i 0 := ⟨(bs.getD i 0).toNat, by omega⟩
      rw [← hx] at c0 hbb
      have hx256 : x < 256 := by omega
      have hr := HI.out.1
      have HB : Hid (runC (byteC r x) (bs.drop (i + 1)) = R) := by
        have e := HI.out.2
        rw [drop_cons (by rw [HL.out]; exact hlt), ← hx] at e
        exact e
      have hix := bits_xor8 (r % 256) x (by omega) hx256
      rw [show ((r % 256 : Nat) : Int) = (r : Int) % 256 by omega] at hix
      have hk : r % 256 ^^^ x < 256 := Nat.xor_lt_two_pow (n := 8) (by omega) hx256
      have ht := HT.out (r % 256 ^^^ x) hk
      have HE : Hid (bits .xor .u32 ((r : Int) / 256) ((stepsC 8 (r % 256 ^^^ x) : Nat) : Int) = ((byteC r x : Nat) : Int)) := byte_tab hr hx256
      have HQ : Hid (byteC r x < 4294967296) := byteC_lt hr hx256
      obtain ⟨k, hke⟩ : ∃ k, k = r % 256 ^^^ x := ⟨_, rfl⟩
      rw [← hke] at hix hk ht HE
      obtain ⟨t, hte⟩ : ∃ t, t = stepsC 8 k := ⟨_, rfl⟩
      rw [← hte] at ht HE
      clear hcell HI hx hke hte hbb
      generalize byteC r x = q at *
      go_wp2
      go_roundw
      case rel => exact ⟨q, i + 1, by rw [HE.out], by go_num, by omega, ⟨HQ.out, HB.out⟩, by first | rfl | trivial⟩
      case measure => simp [intOf]; omega
    · obtain rfl : i = la := by omega
      have HE : Hid (bits .xor .u32 (r : Int) 4294967295 = (s : Int)) := by
        show _ = _
        have hr := HI.out.2
        rw [List.drop_eq_nil_of_le (by rw [HL.out]; exact Nat.le_refl _)] at hr
        rw [bits_all HI.out.1, HS.out, show r = R from hr]
      clear HI
      go_wp2
      go_ret
      exact ⟨ret_int HE.out, hB3⟩
theorem sum_ok10 : SumOk10 := fun a la ca bs w h _ _ => f10sum_any a la ca bs w h

set_option maxHeartbeats 800000 in
theorem f10four_any (a : Option Addr) (la ca : Nat) (bs : List Int) (w : World) (h : Byts w a la ca bs) :
    Calls Try.prog 45 #[.slice a la ca] w fun e w' => ∃ b, e = .returned (.slice (some b) 4 4) ∧ Byts w' (some b) 4 4 (be4 (sumC bs)) ∧ Below w.heap.size w w' := by
  have hs := sumC_lt h.digs
  go_enter Try.func45, Try.ntmps45
  go_wp2_with fail
  refine (f10sum_any a la ca bs w h).mono ?_
  rintro e w1 ⟨rfl, hb1⟩
  obtain ⟨T, hT⟩ : ∃ T, T = sumC bs := ⟨_, rfl⟩
  have HT : Hid (T = sumC bs) := hT
  rw [← hT] at hs
  rw [← hT]
  have hlit := Byts.lit4 w1 ((T : Int) / 16777216) ((T : Int) / 65536 % 256) ((T : Int) / 256 % 256) ((T : Int) % 256) (by omega) (by omega) (by omega) (by omega)
  have HB4 : Hid (Byts (w1.alloc (.cells #[.int .u8 ((T : Int) / 16777216), .int .u8 ((T : Int) / 65536 % 256), .int .u8 ((T : Int) / 256 % 256), .int .u8 ((T : Int) % 256)] 5)) (some ⟨w1.heap.size, 0, none⟩) 4 4 (be4 (sumC bs))) := by
    rw [← hT]
    have e : [(T : Int) / 16777216, (T : Int) / 65536 % 256, (T : Int) / 256 % 256, (T : Int) % 256] = be4 T := by
      unfold be4
      rw [show (T : Int) / 16777216 = ((T / 16777216 % 256 : Nat) : Int) by omega, show (T : Int) / 65536 % 256 = ((T / 65536 % 256 : Nat) : Int) by omega, show (T : Int) / 256 % 256 = ((T / 256 % 256 : Nat) : Int) by omega, show (T : Int) % 256 = ((T % 256 : Nat) : Int) by omega]
    rw [← e]
    exact hlit
  have hB := bthen hb1 (balloc w1 (.cells #[.int .u8 ((T : Int) / 16777216), .int .u8 ((T : Int) / 65536 % 256), .int .u8 ((T : Int) / 256 % 256), .int .u8 ((T : Int) % 256)] 5))
  clear hT h hlit
  go_wp2
  go_ret
  exact ⟨_, rfl, HB4.out, hB⟩
end Go.Proofs.Ytnbdbahfekneoab

namespace Go.Proofs.Ytnbdbahfekneoab
open Go.RowKit

def cntB (n : Int) : Bool := decide (0 ≤ n ∧ n ≤ 1073741824)
theorem cntB_iff {n : Int} : cntB n = true ↔ 0 ≤ n ∧ n ≤ 1073741824 := by unfold cntB; simp
set_option maxHeartbeats 800000 in
theorem f10count_any (n : Int) (w : World) : Calls Try.prog 69 #[.int .i64 n] w fun e w' => e = .returned (.bool (cntB n)) ∧ w = w' := by
  by_cases h1 : 0 ≤ n
  · by_cases h2 : n ≤ 1073741824
    · have HE : Hid (true = cntB n) := (cntB_iff.2 ⟨h1, h2⟩).symm
      go_enter Try.func69, Try.ntmps69
      go_wp2
      go_ret
      exact ⟨ret_bool HE.out, rfl⟩
    · have HE : Hid (false = cntB n) := (Bool.eq_false_iff.2 (fun h => h2 (cntB_iff.1 h).2)).symm
      have h2d : decide (n ≤ 1073741824) = false := decide_eq_false h2
      go_enter Try.func69, Try.ntmps69
      go_wp2
      go_ret
      exact ⟨ret_bool HE.out, rfl⟩
  · have HE : Hid (false = cntB n) := (Bool.eq_false_iff.2 (fun h => h1 (cntB_iff.1 h).1)).symm
    have h1d : decide (0 ≤ n) = false := decide_eq_false h1
    go_enter Try.func69, Try.ntmps69
    go_wp2
    go_ret
    exact ⟨ret_bool HE.out, rfl⟩

theorem bool_not {p q : Bool} (h : p = true → q = true → False) : (p && q) = false := by
  cases p <;> cases q <;> simp at *

set_option maxRecDepth 20000 in
set_option maxHeartbeats 3200000 in
theorem f10may_any (d : Bool) (s a : Int) (b : Option Addr) (lb cb : Nat) (w : World) (hlb : lb < 9223372036854775808) :
    Calls Try.prog 60 #[.agg #[.bool d, .int .i64 s, .int .i64 a, .slice b lb cb]] w fun e w' => e = .returned (.bool (rightFr d s a lb)) ∧ Below w.heap.size w w' := by
  have hV := balloc w (.cells #[.bool d, .int .i64 s, .int .i64 a, .slice b lb cb] 63)
  have NO : (0 ≤ s ∧ s ≤ 1073741824 ∧ 0 ≤ a ∧ a ≤ 1073741824 ∧ lb ≤ 1048576 ∧ (d = true ∨ s = 0 ∧ lb = 0) → False) → Hid (false = rightFr d s a lb) := fun h => (Bool.eq_false_iff.2 (fun e => h ((rightFr_iff d s a lb).1 e))).symm
  have YES : (0 ≤ s ∧ s ≤ 1073741824 ∧ 0 ≤ a ∧ a ≤ 1073741824 ∧ lb ≤ 1048576 ∧ (d = true ∨ s = 0 ∧ lb = 0)) → Hid (true = rightFr d s a lb) := fun h => ((rightFr_iff d s a lb).2 h).symm
  by_cases hd : d = true ∨ s = 0 ∧ lb = 0
  case neg =>
    have hd0 : d = false := by cases d <;> simp at hd ⊢
    subst hd0
    have HE := NO (fun h => hd h.2.2.2.2.2)
    clear NO YES
    by_cases h6 : s = 0
    · have h7 : (0 : Int) < (lb : Int) := by simp at hd; omega
      subst h6
      clear hd
      go_enter Try.func60, Try.ntmps60
      go_wp2
      go_ret
      exact ⟨ret_bool HE.out, hV⟩
    · have h6d : (s == 0) = false := by simp; omega
      have h6e : (s != 0) = true := by simp; omega
      clear hd
      go_enter Try.func60, Try.ntmps60
      go_wp2
      go_ret
      exact ⟨ret_bool HE.out, hV⟩
  have HC := @cntB_iff
  have KS : ∀ wx : World, Hid (Calls Try.prog 69 #[.int .i64 s] wx fun e w' => e = .returned (.bool (cntB s)) ∧ wx = w') := fun wx => f10count_any s wx
  have KA : ∀ wx : World, Hid (Calls Try.prog 69 #[.int .i64 a] wx fun e w' => e = .returned (.bool (cntB a)) ∧ wx = w') := fun wx => f10count_any a wx
  have HD : d = true ∨ d = false ∧ s = 0 ∧ lb = 0 := by
    rcases hd with h | h
    · exact .inl h
    · cases d
      · exact .inr ⟨rfl, h⟩
      · exact .inl rfl
  have HE : Hid ((if cntB s then (if cntB a then decide ((lb : Int) ≤ 1048576) else false) else false) = rightFr d s a lb) := by
    show _ = _
    by_cases k1 : cntB s = true
    · by_cases k2 : cntB a = true
      · rw [if_pos k1, if_pos k2]
        by_cases k3 : lb ≤ 1048576
        · rw [decide_eq_true (by omega)]
          exact (YES ⟨(HC.1 k1).1, (HC.1 k1).2, (HC.1 k2).1, (HC.1 k2).2, k3, hd⟩).out
        · rw [decide_eq_false (by omega)]
          exact (NO (fun h => k3 h.2.2.2.2.1)).out
      · rw [if_pos k1, if_neg k2]
        exact (NO (fun h => k2 (HC.2 ⟨h.2.2.1, h.2.2.2.1⟩))).out
    · rw [if_neg k1]
      exact (NO (fun h => k1 (HC.2 ⟨h.1, h.2.1⟩))).out
  clear NO YES hd HC
  generalize cntB s = B1 at *
  generalize cntB a = B2 at *
  have h8 : decide ((lb : Int) ≤ 1048576) = true ∨ decide ((lb : Int) ≤ 1048576) = false := by cases decide ((lb : Int) ≤ 1048576) <;> simp
  rcases HD with rfl | ⟨rfl, rfl, rfl⟩
  all_goals
    cases B1 with
    | false =>
      go_enter Try.func60, Try.ntmps60
      go_wp2_with fail
      refine (KS _).out.mono ?_
      rintro e w1 ⟨rfl, rfl⟩
      clear KS KA
      go_wp2_with fail
      go_ret
      exact ⟨ret_bool (by have := HE.out; simpa using this), hV⟩
    | true =>
      cases B2 with
      | false =>
        go_enter Try.func60, Try.ntmps60
        go_wp2_with fail
        refine (KS _).out.mono ?_
        rintro e w1 ⟨rfl, rfl⟩
        clear KS
        go_wp2_with fail
        refine (KA _).out.mono ?_
        rintro e w1 ⟨rfl, rfl⟩
        clear KA
        go_wp2_with fail
        go_ret
        exact ⟨ret_bool (by have := HE.out; simpa using this), hV⟩
      | true =>
        rcases h8 with h8 | h8
        all_goals
          go_enter Try.func60, Try.ntmps60
          go_wp2_with fail
          refine (KS _).out.mono ?_
          rintro e w1 ⟨rfl, rfl⟩
          clear KS
          go_wp2_with fail
          refine (KA _).out.mono ?_
          rintro e w1 ⟨rfl, rfl⟩
          clear KA
          go_wp2_with fail
          go_ret
          exact ⟨ret_bool (by have := HE.out; simpa [h8] using this), hV⟩

set_option maxHeartbeats 800000 in
theorem f10kind_any (d : Bool) (s a : Int) (b : Option Addr) (lb cb : Nat) (w : World) :
    Calls Try.prog 61 #[.agg #[.bool d, .int .i64 s, .int .i64 a, .slice b lb cb]] w fun e w' => e = .returned (.int .u8 (if d then 1 else 0)) ∧ Below w.heap.size w w' := by
  have hV := balloc w (.cells #[.bool d, .int .i64 s, .int .i64 a, .slice b lb cb] 63)
  cases d
  all_goals
    go_enter Try.func61, Try.ntmps61
    go_wp2
    go_ret
    exact ⟨rfl, hV⟩
end Go.Proofs.Ytnbdbahfekneoab

namespace Go.Proofs.Ytnbdbahfekneoab
open Go.RowKit

theorem eq_all10 {xs ys : List Int} (hl : xs.length = ys.length) (h : ∀ j, j < xs.length → xs.getD j 0 = ys.getD j 0) : xs = ys := by
  refine List.ext_getElem hl (fun i h1 h2 => ?_)
  have := h i h1
  simpa [List.getD, h1, h2] using this

set_option maxRecDepth 20000 in
set_option maxHeartbeats 1600000 in
theorem equal10_any (a b : Option Addr) (la ca lb cb : Nat) (xs ys : List Int) (w : World) (hx : Byts w a la ca xs) (hy : Byts w b lb cb ys) :
    Calls Try.prog 44 #[.slice a la ca, .slice b lb cb] w fun e w' => e = .returned (.bool (decide (xs = ys))) ∧ Below w.heap.size w w' := by
  have hm := hx.hmax
  have hc := hx.hcap
  unfold maxLen at hm
  have HL : Hid (xs.length = la ∧ ys.length = lb) := ⟨hx.hlen, hy.hlen⟩
  by_cases hl : la = lb
  case neg =>
    have hne : ((la : Int) != (lb : Int)) = true := by simp; omega
    have HE : Hid (false = decide (xs = ys)) := (decide_eq_false (fun e => hl (by rw [← HL.out.1, ← HL.out.2, e]))).symm
    clear hx hy HL hl
    go_enter Try.func44, Try.ntmps44
    go_wp2
    go_ret
    exact ⟨ret_bool HE.out, Below.refl _ _⟩
  subst hl
  have H : Hid (Byts w a la ca xs ∧ Byts w b la cb ys) := ⟨hx, hy⟩
  clear hx hy
  obtain ⟨D, hD⟩ : ∃ D, D = decide (xs = ys) := ⟨_, rfl⟩
  have HD : Hid (D = decide (xs = ys)) := hD
  rw [← hD]
  clear hD
  go_enter Try.func44, Try.ntmps44
  go_wp2
  go_loopw [13] (fun v13 wr => ∃ k : Nat, k ≤ la ∧ v13 = .int .i64 k ∧ Hid (∀ j, j < k → xs.getD j 0 = ys.getD j 0) ∧ Below w.heap.size w wr) (fun v13 _ => la - (intOf v13).toNat)
  case atStart => exact ⟨0, by omega, rfl, fun j hj => by omega, Below.refl _ _⟩
  case round =>
    obtain ⟨k, hk, rfl, HE, hb⟩ := hrel
    by_cases hlt : k < la
    · have hlti : (k : Int) < (la : Int) := by omega
      obtain ⟨b1, o1, rfl, c1⟩ := (H.out.1.below hb).cells (by omega)
      obtain ⟨b2, o2, rfl, c2⟩ := (H.out.2.below hb).cells (by omega)
      replace c1 := c1 k hlt
      replace c2 := c2 k hlt
      obtain ⟨x, hx⟩ : ∃ x, x = xs.getD k 0 := ⟨_, rfl⟩
      obtain ⟨y, hy⟩ : ∃ y, y = ys.getD k 0 := ⟨_, rfl⟩
      rw [← hx] at c1
      rw [← hy] at c2
      have HX : Hid (x = xs.getD k 0 ∧ y = ys.getD k 0) := ⟨hx, hy⟩
      clear hx hy
      by_cases hxy : x = y
      · have hq : (x != y) = false := by simp [hxy]
        have HN : Hid (∀ j, j < k + 1 → xs.getD j 0 = ys.getD j 0) := fun j hj => by
          by_cases e : j = k
          · subst e
            rw [← HX.out.1, ← HX.out.2]; exact hxy
          · exact HE.out j (by omega)
        subst hxy
        clear HX HE
        go_wp2
        go_quiet (fail)
        go_wp2
        go_roundw
        case rel => exact ⟨k + 1, by omega, by go_num, HN, below_drewN hb _⟩
        case measure => simp [intOf]; omega
      · have hq : (x != y) = true := by simp [hxy]
        have hq2 : (x == y) = false := by simp [hxy]
        have HF : Hid (false = D) := by
          show _ = _
          rw [HD.out]
          exact (decide_eq_false (fun e => hxy (by rw [HX.out.1, HX.out.2, e]))).symm
        clear HX HE HD hxy
        go_wp2
        go_quiet (fail)
        go_wp2
        go_ret
        exact ⟨ret_bool HF.out, below_drewN hb _⟩
    · obtain rfl : k = la := by omega
      have HF : Hid (true = D) := by
        show _ = _
        rw [HD.out]
        exact (decide_eq_true (eq_all10 (by rw [HL.out.1, HL.out.2]) (fun j hj => HE.out j (by rw [← HL.out.1]; exact hj)))).symm
      clear HE HD
      go_wp2
      go_ret
      exact ⟨ret_bool HF.out, hb⟩

end Go.Proofs.Ytnbdbahfekneoab

namespace Go.Proofs.Ytnbdbahfekneoab
open Go.RowKit

/-- A frame's variable keeps its four cells. -/
def FourC (w : World) (G : Nat) (d : Bool) (s a : Int) (b : Option Addr) (lb cb : Nat) : Prop := w.cell? ⟨G, 0, none⟩ = some (.bool d) ∧ w.cell? ⟨G, 1, none⟩ = some (.int .i64 s) ∧ w.cell? ⟨G, 2, none⟩ = some (.int .i64 a) ∧ w.cell? ⟨G, 3, none⟩ = some (.slice b lb cb)

set_option maxRecDepth 20000 in
set_option maxHeartbeats 6400000 in
theorem f10enc_any (d : Bool) (s a : Int) (b : Option Addr) (lb cb : Nat) (body : List Int) (w : World) (h : Byts w b lb cb body) (hnil : b = none → cb = 0) :
    Calls Try.prog 43 #[.agg #[.bool d, .int .i64 s, .int .i64 a, .slice b lb cb]] w fun e w' => EncT d s a body w e w' := by
  have hl := h.hlen
  have hmax := h.hmax
  have hcap := h.hcap
  unfold maxLen at hmax
  have hV := balloc w (.cells #[.bool d, .int .i64 s, .int .i64 a, .slice b lb cb] 63)
  have c0 : (w.alloc (.cells #[.bool d, .int .i64 s, .int .i64 a, .slice b lb cb] 63)).cell? ⟨w.heap.size, 0, none⟩ = some (.bool d) := by simp
  have c1 : (w.alloc (.cells #[.bool d, .int .i64 s, .int .i64 a, .slice b lb cb] 63)).cell? ⟨w.heap.size, 1, none⟩ = some (.int .i64 s) := by simp
  have c2 : (w.alloc (.cells #[.bool d, .int .i64 s, .int .i64 a, .slice b lb cb] 63)).cell? ⟨w.heap.size, 2, none⟩ = some (.int .i64 a) := by simp
  have c3 : (w.alloc (.cells #[.bool d, .int .i64 s, .int .i64 a, .slice b lb cb] 63)).cell? ⟨w.heap.size, 3, none⟩ = some (.slice b lb cb) := by simp
  replace h := h.below hV
  have HL : Hid (body.length = lb) := hl
  clear hl
  go_enter Try.func43, Try.ntmps43
  go_wp2_with fail
  refine (f10may_any d s a b lb cb _ (by omega)).mono ?_
  rintro e V ⟨rfl, hb1⟩
  have hB1 := bthen hV hb1
  replace h := h.below hb1
  replace c0 := bkeep hb1 c0 rfl
  replace c1 := bkeep hb1 c1 rfl
  replace c2 := bkeep hb1 c2 rfl
  replace c3 := bkeep hb1 c3 rfl
  obtain ⟨G, hG⟩ : ∃ G, G = w.heap.size := ⟨_, rfl⟩
  have hGV : G < V.heap.size := by rw [hG]; exact Nat.lt_of_lt_of_le (by simp) hb1.size
  rw [← hG] at c0 c1 c2 c3
  rw [← hG]
  clear hV hb1 hG
  cases hr : rightFr d s a lb with
  | false =>
    have HF : Hid (ResEnc d s a body [] 1) := .inr ⟨by rw [HL.out]; exact hr, rfl, rfl⟩
    clear h c0 c1 c2 c3
    go_wp2
    go_ret2
    exact ⟨none, 0, 0, [], 1, rfl, Byts.nil _, HF.out, ⟨fun _ => rfl, fun _ e => (by cases e)⟩, hB1⟩
  | true =>
    obtain ⟨x1, x2, x3, x4, x5, -⟩ := (rightFr_iff d s a lb).1 hr
    obtain ⟨S, rfl⟩ : ∃ S : Nat, s = (S : Int) := ⟨s.toNat, by omega⟩
    obtain ⟨A, rfl⟩ : ∃ A : Nat, a = (A : Int) := ⟨a.toNat, by omega⟩
    have HR : Hid (rightFr d S A body.length = true) := by show _ = _; rw [HL.out]; exact hr
    clear hr
    obtain ⟨K, hK⟩ : ∃ K : Int, K = if d then 1 else 0 := ⟨_, rfl⟩
    have hK2 : 0 ≤ K ∧ K < 256 := by rw [hK]; cases d <;> simp
    obtain ⟨cs, kS⟩ := code_any (n := S) (by omega)
    obtain ⟨ca, kA⟩ := code_any (n := A) (by omega)
    obtain ⟨cc, kB⟩ := code_any (n := body.length) (by have := HL.out; omega)
    obtain ⟨M, hM⟩ : ∃ M, M = K :: (cs ++ (ca ++ (cc ++ body))) := ⟨_, rfl⟩
    have HK : Hid (IsHead d S A body M) := ⟨cs, ca, cc, by simpa using kS, by simpa using kA, kB, by rw [hM, hK]⟩
    have dgb := h.digs
    have dgm := HK.out.digs dgb
    have hlen := (HK.out.len HR.out).1
    have HLM : Hid (M.length ≤ 1048607) := by show _ ≤ _; have := HL.out; omega
    have HRB : Hid (Below V.heap.size V V) := Below.refl _ _
    have KEEP : ∀ {wx w' : World}, Below V.heap.size V wx → Below wx.heap.size wx w' → (w'.cell? ⟨G, 0, none⟩ = some (.bool d) ∧ w'.cell? ⟨G, 1, none⟩ = some (.int .i64 S) ∧ w'.cell? ⟨G, 2, none⟩ = some (.int .i64 A) ∧ w'.cell? ⟨G, 3, none⟩ = some (.slice b lb cb)) ∧ Hid (Below wx.heap.size wx w') ∧ Hid (Below V.heap.size V w') := fun hx hb => ⟨⟨bkeep (bthen hx hb) c0 rfl, bkeep (bthen hx hb) c1 rfl, bkeep (bthen hx hb) c2 rfl, bkeep (bthen hx hb) c3 rfl⟩, hb, bthen hx hb⟩
    have HKi : Hid (∀ wx : World, Below V.heap.size V wx → Calls Try.prog 61 #[.agg #[.bool d, .int .i64 S, .int .i64 A, .slice b lb cb]] wx fun e w' => e = .returned (.int .u8 K) ∧ (w'.cell? ⟨G, 0, none⟩ = some (.bool d) ∧ w'.cell? ⟨G, 1, none⟩ = some (.int .i64 S) ∧ w'.cell? ⟨G, 2, none⟩ = some (.int .i64 A) ∧ w'.cell? ⟨G, 3, none⟩ = some (.slice b lb cb)) ∧ Hid (Below wx.heap.size wx w') ∧ Hid (Below V.heap.size V w')) := by
      intro wx hbx
      refine (f10kind_any d S A b lb cb wx).mono ?_
      rintro e w' ⟨rfl, hb⟩
      exact ⟨by rw [hK], KEEP hbx hb⟩
    have HNs : Hid (∀ wx : World, Below V.heap.size V wx → Calls Try.prog 39 #[.int .u64 S] wx fun e w' => ∃ va vl vc, e = .returned (.slice va vl vc) ∧ Hid (PB w' va vl vc cs) ∧ (w'.cell? ⟨G, 0, none⟩ = some (.bool d) ∧ w'.cell? ⟨G, 1, none⟩ = some (.int .i64 S) ∧ w'.cell? ⟨G, 2, none⟩ = some (.int .i64 A) ∧ w'.cell? ⟨G, 3, none⟩ = some (.slice b lb cb)) ∧ Hid (Below wx.heap.size wx w') ∧ Hid (Below V.heap.size V w')) := by
      intro wx hbx
      refine (c9number_any S wx (by omega)).mono ?_
      rintro e w' ⟨v, c, rfl, ho, hc, hb⟩
      obtain ⟨va, vl, vc, rfl, hp⟩ := PB.own ho hc.digs
      rw [hc.bytes kS] at hp
      exact ⟨_, _, _, rfl, hp, KEEP hbx hb⟩
    have HNa : Hid (∀ wx : World, Below V.heap.size V wx → Calls Try.prog 39 #[.int .u64 A] wx fun e w' => ∃ va vl vc, e = .returned (.slice va vl vc) ∧ Hid (PB w' va vl vc ca) ∧ (w'.cell? ⟨G, 0, none⟩ = some (.bool d) ∧ w'.cell? ⟨G, 1, none⟩ = some (.int .i64 S) ∧ w'.cell? ⟨G, 2, none⟩ = some (.int .i64 A) ∧ w'.cell? ⟨G, 3, none⟩ = some (.slice b lb cb)) ∧ Hid (Below wx.heap.size wx w') ∧ Hid (Below V.heap.size V w')) := by
      intro wx hbx
      refine (c9number_any A wx (by omega)).mono ?_
      rintro e w' ⟨v, c, rfl, ho, hc, hb⟩
      obtain ⟨va, vl, vc, rfl, hp⟩ := PB.own ho hc.digs
      rw [hc.bytes kA] at hp
      exact ⟨_, _, _, rfl, hp, KEEP hbx hb⟩
    have HBy : Hid (∀ wx : World, Below V.heap.size V wx → Calls Try.prog 40 #[.slice b lb cb] wx fun e w' => ∃ va vl vc, e = .returned (.slice va vl vc) ∧ Hid (PB w' va vl vc (cc ++ body)) ∧ (w'.cell? ⟨G, 0, none⟩ = some (.bool d) ∧ w'.cell? ⟨G, 1, none⟩ = some (.int .i64 S) ∧ w'.cell? ⟨G, 2, none⟩ = some (.int .i64 A) ∧ w'.cell? ⟨G, 3, none⟩ = some (.slice b lb cb)) ∧ Hid (Below wx.heap.size wx w') ∧ Hid (Below V.heap.size V w')) := by
      intro wx hbx
      refine (c9bytes_any b lb cb body wx (h.below hbx) hnil (by omega)).mono ?_
      rintro e w' ⟨v, c, rfl, ho, hc, hb⟩
      obtain ⟨va, vl, vc, rfl, hp⟩ := PB.own ho (hc.digs.app9 dgb)
      rw [hc.bytes kB] at hp
      exact ⟨_, _, _, rfl, hp, KEEP hbx hb⟩
    have HCo : Hid (∀ (wx : World) (g : Nat) (a1 : Option Addr) (l1 k1 : Nat) (a2 : Option Addr) (l2 k2 : Nat) (a3 : Option Addr) (l3 k3 : Nat), (∃ a0 l0 k0, wx.cell? ⟨g, 0, none⟩ = some (.slice a0 l0 k0) ∧ PB wx a0 l0 k0 [K]) → wx.cell? ⟨g, 1, none⟩ = some (.slice a1 l1 k1) → wx.cell? ⟨g, 2, none⟩ = some (.slice a2 l2 k2) → wx.cell? ⟨g, 3, none⟩ = some (.slice a3 l3 k3) → PB wx a1 l1 k1 cs → PB wx a2 l2 k2 ca → PB wx a3 l3 k3 (cc ++ body) → Below V.heap.size V wx → Calls Try.prog 14 #[.slice (some ⟨g, 0, none⟩) 4 4] wx fun e w' => ∃ v, e = .returned v ∧ Hid (BOwn w' V.heap.size v M) ∧ (w'.cell? ⟨G, 0, none⟩ = some (.bool d) ∧ w'.cell? ⟨G, 1, none⟩ = some (.int .i64 S) ∧ w'.cell? ⟨G, 2, none⟩ = some (.int .i64 A) ∧ w'.cell? ⟨G, 3, none⟩ = some (.slice b lb cb)) ∧ Hid (Below wx.heap.size wx w') ∧ Hid (Below V.heap.size V w')) := by
      rintro wx g a1 l1 k1 a2 l2 k2 a3 l3 k3 ⟨a0, l0, k0, q0, p0⟩ q1 q2 q3 p1 p2 p3 hbx
      have hcat : catL [(a0, l0, k0, [K]), (a1, l1, k1, cs), (a2, l2, k2, ca), (a3, l3, k3, cc ++ body)] = M := by rw [hM]; simp [catL]
      have hP : Parts10 wx g [(a0, l0, k0, [K]), (a1, l1, k1, cs), (a2, l2, k2, ca), (a3, l3, k3, cc ++ body)] := by
        intro i p hp
        match i, hp with
        | 0, hp => cases hp; exact ⟨q0, p0.1, p0.2⟩
        | 1, hp => cases hp; exact ⟨q1, p1.1, p1.2⟩
        | 2, hp => cases hp; exact ⟨q2, p2.1, p2.2⟩
        | 3, hp => cases hp; exact ⟨q3, p3.1, p3.2⟩
        | i + 4, hp => simp at hp
      refine (concat10_any g 4 _ 4 wx rfl (Nat.le_refl _) (by decide) hP (by rw [hcat, hM]; simp) (by rw [hcat]; have := HLM.out; omega)).mono ?_
      rintro e w' ⟨v, rfl, ho, hb⟩
      rw [hcat] at ho
      exact ⟨v, rfl, ho.base hbx.size, KEEP hbx hb⟩
    clear KEEP kS kA kB hM hlen
    have hwS : IntKind.u64.wrap (S : Int) = S := by simp [IntKind.wrap, IntKind.signed, IntKind.bits]; omega
    have hwA : IntKind.u64.wrap (A : Int) = A := by simp [IntKind.wrap, IntKind.signed, IntKind.bits]; omega
    go_wp2_with fail
    go_cut [4] (fun pv wx => BOwn wx V.heap.size pv M ∧ Below V.heap.size V wx)
    case first =>
      clear h hnil hB1 dgb dgm HK HR HL HLM hK
      have ne0 := World.new_ne V ⟨G, 0, none⟩ c0
      go_region_held3 (fun w' => w'.cell? ⟨G, 0, none⟩ = some (.bool d) ∧ w'.cell? ⟨G, 1, none⟩ = some (.int .i64 S) ∧ w'.cell? ⟨G, 2, none⟩ = some (.int .i64 A) ∧ w'.cell? ⟨G, 3, none⟩ = some (.slice b lb cb)) (first | go_keep | exact ⟨n70, n71, n72, n73⟩ | exact ⟨n60, n61, n62, n63⟩ | exact ⟨n50, n51, n52, n53⟩ | exact ⟨n40, n41, n42, n43⟩ | exact ⟨n30, n31, n32, n33⟩)
        (first
        | (go_at_call 61; with_reducible refine Calls.mono (HKi.out _ ?_) ?_; (focus (repeat (first | exact HRB.out | exact hB3.out | exact hB4.out | exact hB5.out | exact hB6.out | refine bdrX' ?_ | refine bgrX ?_ _))); rintro e w3 ⟨rfl, ⟨n30, n31, n32, n33⟩, hb3, hB3⟩; have ne3 := World.new_ne w3 ⟨G, 0, none⟩ n30)
        | (go_at_call 39; with_reducible refine Calls.mono (HNs.out _ ?_) ?_; (focus (repeat (first | exact HRB.out | exact hB3.out | exact hB4.out | exact hB5.out | exact hB6.out | refine bdrX' ?_ | refine bgrX ?_ _))); rintro e w4 ⟨sa, sn, sc, rfl, hP4, ⟨n40, n41, n42, n43⟩, hb4, hB4⟩; have ne4 := World.new_ne w4 ⟨G, 0, none⟩ n40)
        | (go_at_call 39; with_reducible refine Calls.mono (HNa.out _ ?_) ?_; (focus (repeat (first | exact HRB.out | exact hB3.out | exact hB4.out | exact hB5.out | exact hB6.out | refine bdrX' ?_ | refine bgrX ?_ _))); rintro e w5 ⟨ta, tn, tc, rfl, hP5, ⟨n50, n51, n52, n53⟩, hb5, hB5⟩; have ne5 := World.new_ne w5 ⟨G, 0, none⟩ n50)
        | (go_at_call 40; with_reducible refine Calls.mono (HBy.out _ ?_) ?_; (focus (repeat (first | exact HRB.out | exact hB3.out | exact hB4.out | exact hB5.out | exact hB6.out | refine bdrX' ?_ | refine bgrX ?_ _))); rintro e w6 ⟨ua, un, uc, rfl, hP6, ⟨n60, n61, n62, n63⟩, hb6, hB6⟩; have ne6 := World.new_ne w6 ⟨G, 0, none⟩ n60)
        | (go_at_call 14; with_reducible refine Calls.mono (HCo.out _ _ sa sn sc ta tn tc ua un uc ?_ ?_ ?_ ?_ ?_ ?_ ?_ ?_) ?_; (focus (first | refine ⟨_, _, _, cell4_0 _ _ _ _ _ _, ?_⟩ | refine ⟨_, _, _, cell4s_0 _ _ _ _ _ _ _, ?_⟩); (focus (repeat (first | with_reducible exact PB.lit1 _ _ hK2 | with_reducible exact hP4.out | with_reducible exact hP5.out | with_reducible exact hP6.out | with_reducible refine PB.drew ?_ | with_reducible refine PB.grow ?_ _ | with_reducible refine PB.below ?_ hb4.out | with_reducible refine PB.below ?_ hb5.out | with_reducible refine PB.below ?_ hb6.out)))); (focus (first | exact cell4_1 _ _ _ _ _ _ | exact cell4s_1 _ _ _ _ _ _ _)); (focus (first | exact cell4_2 _ _ _ _ _ _ | exact cell4s_2 _ _ _ _ _ _ _)); (focus (first | exact cell4_3 _ _ _ _ _ _ | exact cell4s_3 _ _ _ _ _ _ _)); (focus (repeat (first | with_reducible exact PB.lit1 _ _ hK2 | with_reducible exact hP4.out | with_reducible exact hP5.out | with_reducible exact hP6.out | with_reducible refine PB.drew ?_ | with_reducible refine PB.grow ?_ _ | with_reducible refine PB.below ?_ hb4.out | with_reducible refine PB.below ?_ hb5.out | with_reducible refine PB.below ?_ hb6.out))); (focus (repeat (first | with_reducible exact PB.lit1 _ _ hK2 | with_reducible exact hP4.out | with_reducible exact hP5.out | with_reducible exact hP6.out | with_reducible refine PB.drew ?_ | with_reducible refine PB.grow ?_ _ | with_reducible refine PB.below ?_ hb4.out | with_reducible refine PB.below ?_ hb5.out | with_reducible refine PB.below ?_ hb6.out))); (focus (repeat (first | with_reducible exact PB.lit1 _ _ hK2 | with_reducible exact hP4.out | with_reducible exact hP5.out | with_reducible exact hP6.out | with_reducible refine PB.drew ?_ | with_reducible refine PB.grow ?_ _ | with_reducible refine PB.below ?_ hb4.out | with_reducible refine PB.below ?_ hb5.out | with_reducible refine PB.below ?_ hb6.out))); (focus (repeat (first | exact HRB.out | exact hB3.out | exact hB4.out | exact hB5.out | exact hB6.out | refine bdrX' ?_ | refine bgrX ?_ _))); rintro e w7 ⟨v7, rfl, hO7, ⟨n70, n71, n72, n73⟩, hb7, hB7⟩))
      all_goals
        clear HKi HNs HNa HBy HCo HRB
        go_wp2_with fail
        go_meet
        case rel => exact ⟨hO7.out, hB7.out⟩
    case rest =>
      obtain ⟨hO, hb2⟩ := hcut
      clear HKi HNs HNa HBy HCo HRB h c0 c1 c2 c3 hwS hwA x1 x2 x3 x4 x5 hcap hmax
      have HE : Hid (IsEnc d S A body (M ++ be4 (sumC M))) := ⟨M, HK.out, rfl⟩
      have dg10 := HE.out.digs dgb
      obtain ⟨oa, on, oc, hv, hOb, -, nnO⟩ := hO.fresh dgm
      have HO : Hid (BOwn wc V.heap.size (.slice oa on oc) M) := by show BOwn _ _ _ _; rw [← hv]; exact hO
      subst hv
      clear hO
      go_wp2_with fail
      refine (f10four_any oa on oc M _ hOb).mono ?_
      rintro e w3 ⟨q, rfl, h4, hb3⟩
      have hO3 := own9 HO.out hb3
      have hB3 := bthen hb2 hb3
      clear HO hOb nnO hb2 hb3
      go_wp2_with (at_builtin; refine wpList_appBW _ rfl _ _ 32 rfl Try.underlying32 V.heap.size _ _ rfl hO3 (some q) 4 4 _ rfl h4 (fun e => by cases e) ?c1 V ?c2 hB3 ?_)
      case c1 => have := HLM.out; omega
      case c2 => exact hB3.size
      rintro v10 w10 own10 b10 -
      obtain ⟨ra, rn, rc, rfl, hZ, qbZ, nnZ⟩ := own10.fresh dg10
      have hBB := bthen hB1 b10
      have HZ : Hid (Byts w10 ra rn rc (M ++ be4 (sumC M)) ∧ ((ra = none → rc = 0) ∧ ∀ ad, ra = some ad → 0 < rn → w.heap.size ≤ ad.block ∧ IsB w10 ad.block)) := ⟨hZ, nil9 nnZ, fun ad e h0 => by
        obtain ⟨q, e2, hq, cur, hqc, -⟩ := qbZ h0
        rw [e] at e2
        cases e2
        exact ⟨Nat.le_trans hB1.size hq, cur, hqc⟩⟩
      clear hO3 h4 own10 b10 hZ nnZ qbZ dg10 dgm hB3
      go_wp2
      go_ret2
      exact ⟨ra, rn, rc, _, 0, rfl, HZ.out.1, .inl ⟨HR.out, HE.out, rfl⟩, HZ.out.2, hBB⟩
theorem enc_ok10 : EncOk10 := fun d s a b lb cb body w h hn _ _ => f10enc_any d s a b lb cb body w h hn
end Go.Proofs.Ytnbdbahfekneoab

namespace Go.Proofs.Ytnbdbahfekneoab
open Go.RowKit

theorem code_small {b : Nat} (h : b < 128) : IsCode [(b : Int)] b := ⟨rfl, by omega⟩
theorem ResNum.ok {L : List Int} {most n : Nat} {R : List Int} (h : ResNum L most n 0 R) : ∃ c, IsCode c n ∧ L = c ++ R ∧ n ≤ most := by
  obtain ⟨m, k, h1, ⟨_, _, h3, _⟩ | ⟨h2, rfl, _, rfl⟩⟩ := h
  · cases h3
  · rcases h1 with ⟨_, _, h4⟩ | ⟨hk, _, _⟩
    · exact ⟨_, h4, (List.take_append_drop _ _).symm, by omega⟩
    · exact absurd (.inl hk) h2
theorem ResBytR.ok {L : List Int} {most : Int} {ys R : List Int} (h : ResBytR L most ys 0 R) : ∃ c, IsCode c ys.length ∧ L = c ++ (ys ++ R) ∧ (ys.length : Int) ≤ most := by
  obtain ⟨m, k, h1, ⟨_, _, h3, _⟩ | ⟨h2, rfl, _, rfl⟩⟩ := h
  · cases h3
  · have hl : ((L.drop k).take m).length = m := by simp; omega
    rcases h1 with ⟨_, _, h4⟩ | ⟨hk, _, _⟩
    · rw [hl]
      refine ⟨_, h4, ?_, by omega⟩
      rw [← List.drop_drop, List.take_append_drop, List.take_append_drop]
    · exact absurd (.inl hk) h2
/-- The parts of a frame are read as the frame's. -/
theorem head_read {d : Bool} {s a : Int} {body L : List Int} (h : IsHead d s a body L) (hr : rightFr d s a body.length = true) {n0 n n2 : Nat} {e0 e e2 e3 : Int} {R0 R1 R2 R3 ys : List Int} (h0 : ResNum L 1 n0 e0 R0) (h1 : ResNum R0 1073741824 n e R1) (h2 : ResNum R1 1073741824 n2 e2 R2) (h3 : ResBytR R2 1048576 ys e3 R3) :
    ((n0 == 1) = d ∧ (n : Int) = s ∧ (n2 : Int) = a ∧ ys = body) ∧ (e0 = 0 ∧ e = 0 ∧ e2 = 0 ∧ e3 = 0) ∧ R3 = [] := by
  obtain ⟨x1, x2, x3, x4, x5, _⟩ := (rightFr_iff _ _ _ _).1 hr
  obtain ⟨cs, ca, cb, k1, k2, k3, rfl⟩ := h
  have kd : IsCode [(if d then 1 else 0 : Int)] (if d then 1 else 0) := by cases d <;> exact code_small (by decide)
  obtain ⟨rfl, rfl, rfl⟩ := h0.unique (read_num (c := [(if d then 1 else 0 : Int)]) (R := cs ++ (ca ++ (cb ++ body))) kd (by cases d <;> simp) (by cases d <;> simp))
  obtain ⟨rfl, rfl, rfl⟩ := h1.unique (read_num (R := ca ++ (cb ++ body)) k1 (by omega) (by omega))
  obtain ⟨rfl, rfl, rfl⟩ := h2.unique (read_num (R := cb ++ body) k2 (by omega) (by omega))
  obtain ⟨rfl, rfl, rfl⟩ := h3.unique (read_byt k3 (by omega) (by omega))
  exact ⟨⟨by cases d <;> rfl, by omega, by omega, rfl⟩, ⟨rfl, rfl, rfl, rfl⟩, rfl⟩
/-- What is read without a fault is a frame's parts. -/
theorem read_head {L : List Int} {n0 n n2 : Nat} {R0 R1 R2 ys : List Int} (h0 : ResNum L 1 n0 0 R0) (h1 : ResNum R0 1073741824 n 0 R1) (h2 : ResNum R1 1073741824 n2 0 R2) (h3 : ResBytR R2 1048576 ys 0 []) : IsHead (n0 == 1) n n2 ys L := by
  obtain ⟨c0, k0, rfl, m0⟩ := h0.ok
  obtain ⟨c1, k1, rfl, m1⟩ := h1.ok
  obtain ⟨c2, k2, rfl, m2⟩ := h2.ok
  obtain ⟨c3, k3, rfl, m3⟩ := h3.ok
  refine ⟨c1, c2, c3, by simpa using k1, by simpa using k2, k3, ?_⟩
  rw [k0.bytes (code_small (by omega)), List.append_nil]
  have : n0 = 0 ∨ n0 = 1 := by omega
  rcases this with rfl | rfl <;> rfl

theorem cell_putF {w : World} {G k j : Nat} (h : G ≠ k) (x y z u : Value) : ((((w.setCell ⟨G, 0, none⟩ x).setCell ⟨G, 1, none⟩ y).setCell ⟨G, 2, none⟩ z).setCell ⟨G, 3, none⟩ u).cell? ⟨k, j, none⟩ = w.cell? ⟨k, j, none⟩ := by
  rw [World.cell?_setCell_other, World.cell?_setCell_other, World.cell?_setCell_other, World.cell?_setCell_other] <;> (intro e; cases e; exact h rfl)
/-- What read makes. -/
def ReadT (L : List Int) (w : World) (g : Nat) (e : Ending) (w' : World) : Prop :=
  ∃ d s a p l c ys ok, e = .returned (.tuple #[.agg #[.bool d, .int .i64 s, .int .i64 a, .slice p l c], .bool ok]) ∧ Byts w' p l c ys ∧ ((p = none → c = 0) ∧ ∀ ad, p = some ad → 0 < l → w.heap.size ≤ ad.block ∧ IsB w' ad.block) ∧ (ok = true → rightFr d s a ys.length = true ∧ IsHead d s a ys L) ∧ (ok = false → ∀ d s a body, rightFr d s a body.length = true → ¬ IsHead d s a body L) ∧ w.grownBy w' (some g)
theorem grown_putF {w w' : World} {g G : Nat} (h : w.grownBy w' (some g)) (hG : w.heap.size ≤ G) (x y z u : Value) : w.grownBy ((((w'.setCell ⟨G, 0, none⟩ x).setCell ⟨G, 1, none⟩ y).setCell ⟨G, 2, none⟩ z).setCell ⟨G, 3, none⟩ u) (some g) := by
  have hb := putF_below (Below.refl w.heap.size w') hG x y z u
  refine ⟨hb.os.trans h.os, hb.tape.trans h.tape, hb.output.trans h.output, Nat.le_trans h.size hb.size, fun k hk hne => ?_⟩
  rw [hb.block k hk, h.block k hk hne]
theorem CellF.grown {w w' : World} {G g : Nat} {d : Bool} {s a : Int} {p : Option Addr} {l c : Nat} (h : CellF w G d s a p l c) (hg : w.grownBy w' (some g)) (hne : G ≠ g) : CellF w' G d s a p l c := by
  have hb := hg.block G h.lt (fun e => hne (by simpa using e))
  exact ⟨(World.cell?_of_block (a := ⟨G, 0, none⟩) hb).trans h.c0, (World.cell?_of_block (a := ⟨G, 1, none⟩) hb).trans h.c1, (World.cell?_of_block (a := ⟨G, 2, none⟩) hb).trans h.c2, (World.cell?_of_block (a := ⟨G, 3, none⟩) hb).trans h.c3, (World.frozen?_of_block (a := ⟨G, 0, none⟩) hb).trans h.f0, (World.frozen?_of_block (a := ⟨G, 1, none⟩) hb).trans h.f1, (World.frozen?_of_block (a := ⟨G, 2, none⟩) hb).trans h.f2, (World.frozen?_of_block (a := ⟨G, 3, none⟩) hb).trans h.f3⟩
theorem grown_on {w w1 w2 : World} {g : Nat} (h : w.grownBy w1 (some g)) (h2 : w1.grownBy w2 (some g)) : w.grownBy w2 (some g) := ⟨h2.os.trans h.os, h2.tape.trans h.tape, h2.output.trans h.output, Nat.le_trans h.size h2.size, fun k hk hne => (h2.block k (Nat.lt_of_lt_of_le hk h.size) hne).trans (h.block k hk hne)⟩
theorem grown_bel {w w1 w2 : World} {g : Nat} (h : w.grownBy w1 (some g)) (h2 : Below w1.heap.size w1 w2) : w.grownBy w2 (some g) := ⟨h2.os.trans h.os, h2.tape.trans h.tape, h2.output.trans h.output, Nat.le_trans h.size h2.size, fun k hk hne => (h2.block k (Nat.lt_of_lt_of_le hk h.size)).trans (h.block k hk hne)⟩

set_option maxRecDepth 20000 in
set_option maxHeartbeats 6400000 in
theorem f10read_any (g : Nat) (L : List Int) (w : World) (h : CRdAt w g L) :
    Calls Try.prog 46 #[.pointer (some ⟨g, 0, none⟩)] w fun e w' => ReadT L w g e w' := by
  have hV := balloc w (.cells #[.bool false, .int .i64 0, .int .i64 0, .slice none 0 0] 63)
  have hR := CellF.new w false 0 0 none 0 0
  have hgl := h.lt
  replace h := h.below hV
  obtain ⟨V, hVe⟩ : ∃ V, V = w.alloc (.cells #[.bool false, .int .i64 0, .int .i64 0, .slice none 0 0] 63) := ⟨_, rfl⟩
  have HVe : Hid (V = w.alloc (.cells #[.bool false, .int .i64 0, .int .i64 0, .slice none 0 0] 63)) := hVe
  rw [← hVe] at hV hR h
  clear hVe
  go_enter Try.func46, Try.ntmps46
  go_wp2_with fail
  rw [← HVe.out]
  obtain ⟨G, hG⟩ : ∃ G, G = w.heap.size := ⟨_, rfl⟩
  rw [← hG] at hR
  rw [← hG]
  have HG : Hid (w.heap.size ≤ G) := by show _ ≤ _; rw [hG]; exact Nat.le_refl _
  have hne : G ≠ g := by omega
  clear HVe hG
  refine (c9rnum_any g L 1 _ h).mono ?_
  rintro e w0 ⟨n0, e0, R0, rfl, hr0, hA0, hgr0⟩
  have hg0 := grown_on (grown_of_below hV (some g)) hgr0
  have hR0 := hR.grown hgr0 hne
  have HR0 : Hid (ResNum L 1 n0 e0 R0) := hr0
  have hn0 := hr0.le
  clear hr0 hgr0 hR h hV
  go_wp2_with fail
  refine (c9rnum_any g R0 1073741824 _ hA0).mono ?_
  rintro e w1 ⟨n1, e1, R1, rfl, hr1, hA1, hgr1⟩
  have hg1 := grown_on hg0 hgr1
  have hR1 := hR0.grown hgr1 hne
  have HR1 : Hid (ResNum R0 1073741824 n1 e1 R1) := hr1
  have hn1 := hr1.le
  clear hr1 hgr1 hR0 hA0 hg0
  go_wp2_with fail
  refine (c9rnum_any g R1 1073741824 _ hA1).mono ?_
  rintro e w2 ⟨n2, e2, R2, rfl, hr2, hA2, hgr2⟩
  have hg2 := grown_on hg1 hgr2
  have hR2 := hR1.grown hgr2 hne
  have HR2 : Hid (ResNum R1 1073741824 n2 e2 R2) := hr2
  have hn2 := hr2.le
  clear hr2 hgr2 hR1 hA1 hg1
  go_wp2_with fail
  refine (c9rbyt_any g R2 1048576 _ hA2 (by decide)).mono ?_
  rintro e w3 ⟨ya, yl, yc, ys, e3, R3, rfl, ⟨hy, yn, yf⟩, hr3, hA3, hgr3⟩
  have hg3 := grown_on hg2 hgr3
  have hR3 := hR2.grown hgr3 hne
  have HR3 : Hid (ResBytR R2 1048576 ys e3 R3) := hr3
  have HYF : Hid (∀ ad, ya = some ad → 0 < yl → w.heap.size ≤ ad.block) := fun ad e h0 => Nat.le_trans hg2.size (yf ad e h0).1
  have HI3 : Hid (IsBs w3 ya yl) := fun ad e h0 => (yf ad e h0).2
  have HYL : Hid (ys.length = yl) := hy.hlen
  clear hr3 hgr3 hR2 hA2 hg2 yf
  have ALL : Hid (∀ d s a body, rightFr d s a body.length = true → IsHead d s a body L → ((n0 == 1) = d ∧ (n1 : Int) = s ∧ (n2 : Int) = a ∧ ys = body) ∧ (e0 = 0 ∧ e1 = 0 ∧ e2 = 0 ∧ e3 = 0) ∧ R3 = []) := fun d s a body hr he => head_read he hr HR0.out HR1.out HR2.out HR3.out
  have BAD : ∀ wx : World, w.grownBy wx (some g) → (∀ d s a body, rightFr d s a body.length = true → ¬ IsHead d s a body L) → Hid (ReadT L w g (.returned (.tuple #[.agg #[.bool false, .int .i64 0, .int .i64 0, .slice none 0 0], .bool false])) ((((wx.setCell ⟨G, 0, none⟩ (.bool false)).setCell ⟨G, 1, none⟩ (.int .i64 0)).setCell ⟨G, 2, none⟩ (.int .i64 0)).setCell ⟨G, 3, none⟩ (.slice none 0 0))) := fun wx hb hn => ⟨false, 0, 0, none, 0, 0, [], false, rfl, Byts.nil _, ⟨fun _ => rfl, fun _ e => (by cases e)⟩, fun e => (by cases e), fun _ => hn, grown_putF hb HG.out _ _ _ _⟩
  obtain ⟨r0, r1, r2, r3, f0, f1, f2, f3⟩ := hR3
  have hRc : CellF w3 G false 0 0 none 0 0 := ⟨r0, r1, r2, r3, f0, f1, f2, f3⟩
  by_cases z0 : e0 = 0
  case neg =>
    have HB := BAD w3 hg3 (fun d s a body hr he => z0 (ALL.out d s a body hr he).2.1.1)
    have z0d : (e0 != 0) = true := by simp [z0]
    have z0e : (e0 == 0) = false := by simp [z0]
    clear ALL BAD hg3 hA3 hy z0 hRc
    go_wp2_with fail
    exact bodyPost_ret (v := .tuple #[.agg #[.bool false, .int .i64 0, .int .i64 0, .slice none 0 0], .bool false]) (by simp [results, Try.results46, go_sem, r0, r1, r2, r3]) rfl HB.out
  subst z0
  by_cases z1 : e1 = 0
  case neg =>
    have HB := BAD w3 hg3 (fun d s a body hr he => z1 (ALL.out d s a body hr he).2.1.2.1)
    have z1d : (e1 != 0) = true := by simp [z1]
    have z1e : (e1 == 0) = false := by simp [z1]
    clear ALL BAD hg3 hA3 hy z1 hRc
    go_wp2_with fail
    exact bodyPost_ret (v := .tuple #[.agg #[.bool false, .int .i64 0, .int .i64 0, .slice none 0 0], .bool false]) (by simp [results, Try.results46, go_sem, r0, r1, r2, r3]) rfl HB.out
  subst z1
  by_cases z2 : e2 = 0
  case neg =>
    have HB := BAD w3 hg3 (fun d s a body hr he => z2 (ALL.out d s a body hr he).2.1.2.2.1)
    have z2d : (e2 != 0) = true := by simp [z2]
    have z2e : (e2 == 0) = false := by simp [z2]
    clear ALL BAD hg3 hA3 hy z2 hRc
    go_wp2_with fail
    exact bodyPost_ret (v := .tuple #[.agg #[.bool false, .int .i64 0, .int .i64 0, .slice none 0 0], .bool false]) (by simp [results, Try.results46, go_sem, r0, r1, r2, r3]) rfl HB.out
  subst z2
  by_cases z3 : e3 = 0
  case neg =>
    have HB := BAD w3 hg3 (fun d s a body hr he => z3 (ALL.out d s a body hr he).2.1.2.2.2)
    have z3d : (e3 != 0) = true := by simp [z3]
    have z3e : (e3 == 0) = false := by simp [z3]
    clear ALL BAD hg3 hA3 hy z3 hRc
    go_wp2_with fail
    exact bodyPost_ret (v := .tuple #[.agg #[.bool false, .int .i64 0, .int .i64 0, .slice none 0 0], .bool false]) (by simp [results, Try.results46, go_sem, r0, r1, r2, r3]) rfl HB.out
  subst z3
  go_wp2_with fail
  refine (c9left_any g R3 _ hA3).mono ?_
  rintro e w5 ⟨rfl, rfl⟩
  obtain ⟨t, ht⟩ : ∃ t, t = R3.length := ⟨_, rfl⟩
  rw [← ht]
  by_cases zL : R3 = []
  case neg =>
    have HB := BAD w3 hg3 (fun d s a body hr he => zL (ALL.out d s a body hr he).2.2)
    have t0 : (0 : Int) < (t : Int) := by rw [ht]; have := List.length_pos_iff.2 zL; omega
    clear ALL BAD hg3 hA3 hy hRc zL ht
    go_wp2_with fail
    exact bodyPost_ret (v := .tuple #[.agg #[.bool false, .int .i64 0, .int .i64 0, .slice none 0 0], .bool false]) (by simp [results, Try.results46, go_sem, r0, r1, r2, r3]) rfl HB.out
  obtain rfl : t = 0 := by rw [ht, zL]; rfl
  subst zL
  have HH : Hid (IsHead (n0 == 1) n1 n2 ys L) := read_head HR0.out HR1.out HR2.out HR3.out
  clear ht HR0 HR1 HR2 HR3 BAD
  obtain ⟨q, hq⟩ : ∃ q, q = (n0 == 1) := ⟨_, rfl⟩
  have hqi : ((n0 : Int) == 1) = q := by
    rw [hq]
    by_cases e : n0 = 1
    · subst e; rfl
    · have : ((n0 : Int) == 1) = false := by simp; omega
      rw [this]
      simp [e]
  rw [← hq] at HH ALL
  clear hq
  have hwS : IntKind.i64.wrap (n1 : Int) = n1 := by simp [IntKind.wrap, IntKind.signed, IntKind.bits]; omega
  have hwA : IntKind.i64.wrap (n2 : Int) = n2 := by simp [IntKind.wrap, IntKind.signed, IntKind.bits]; omega
  have hFn := balloc w3 (.cells #[.bool q, .int .i64 n1, .int .i64 n2, .slice ya yl yc] 63)
  have HF := CellF.new w3 q n1 n2 ya yl yc
  have hRW := hRc.below hFn
  have hyW := hy.below hFn
  have HIW : Hid (IsBs (w3.alloc (.cells #[.bool q, .int .i64 n1, .int .i64 n2, .slice ya yl yc] 63)) ya yl) := HI3.out.below hFn
  have hgW := grown_bel hg3 hFn
  have hGk : G < w3.heap.size := hRc.lt
  obtain ⟨W, hWe⟩ : ∃ W, W = w3.alloc (.cells #[.bool q, .int .i64 n1, .int .i64 n2, .slice ya yl yc] 63) := ⟨_, rfl⟩
  have HWe : Hid (W = w3.alloc (.cells #[.bool q, .int .i64 n1, .int .i64 n2, .slice ya yl yc] 63)) := hWe
  obtain ⟨k, hk⟩ : ∃ k, k = w3.heap.size := ⟨_, rfl⟩
  have Hk : Hid (k = w3.heap.size) := hk
  rw [← hWe] at HF hRW hyW hgW HIW
  rw [← hk] at HF hGk
  have hkW : k < W.heap.size := HF.lt
  clear hFn hRc hy HI3 hg3 r0 r1 r2 r3 f0 f1 f2 f3 hWe hk hA3
  have hyl := hyW.hcap
  have hym := hyW.hmax
  unfold maxLen at hym
  obtain ⟨B, hB⟩ : ∃ B, B = rightFr q n1 n2 yl := ⟨_, rfl⟩
  have HRB : Hid (Below W.heap.size W W) := Below.refl _ _
  have HMa : Hid (∀ wx : World, Below W.heap.size W wx → Calls Try.prog 60 #[.agg #[.bool q, .int .i64 n1, .int .i64 n2, .slice ya yl yc]] wx fun e w' => e = .returned (.bool B) ∧ (w'.cell? ⟨k, 0, none⟩ = some (.bool q) ∧ w'.cell? ⟨k, 1, none⟩ = some (.int .i64 n1) ∧ w'.cell? ⟨k, 2, none⟩ = some (.int .i64 n2) ∧ w'.cell? ⟨k, 3, none⟩ = some (.slice ya yl yc)) ∧ Hid (Below W.heap.size W w') ∧ CellF w' G false 0 0 none 0 0) := by
    intro wx hbx
    refine (f10may_any q n1 n2 ya yl yc wx (by omega)).mono ?_
    rintro e w' ⟨rfl, hb⟩
    have hb' := bthen hbx hb
    have hc := HF.below hb'
    exact ⟨by rw [hB], ⟨hc.c0, hc.c1, hc.c2, hc.c3⟩, hb', hRW.below hb'⟩
  obtain ⟨c0, c1, c2, c3, -, -, -, -⟩ := HF
  have hB2 : Hid (B = rightFr q n1 n2 ys.length) := by show _ = _; rw [HYL.out]; exact hB
  clear hB
  go_wp2_with fail
  rw [← HWe.out, ← Hk.out]
  clear HWe Hk
  have ne0 := World.new_ne W ⟨k, 0, none⟩ c0
  clear hne hgl hn0 hn1 hn2
  go_region_held3 (fun w' => w'.cell? ⟨k, 0, none⟩ = some (.bool q) ∧ w'.cell? ⟨k, 1, none⟩ = some (.int .i64 n1) ∧ w'.cell? ⟨k, 2, none⟩ = some (.int .i64 n2) ∧ w'.cell? ⟨k, 3, none⟩ = some (.slice ya yl yc)) (first | go_keep | exact ⟨m0, m1, m2, m3⟩ | exact ⟨(cell_putF (by omega) _ _ _ _).trans m0, (cell_putF (by omega) _ _ _ _).trans m1, (cell_putF (by omega) _ _ _ _).trans m2, (cell_putF (by omega) _ _ _ _).trans m3⟩)
    (first
    | (go_at_call 60; with_reducible refine Calls.mono (HMa.out _ ?_) ?_; (focus (repeat (first | exact HRB.out | refine bdrX' ?_ | refine bgrX ?_ _))); rintro e w6 ⟨rfl, ⟨m0, m1, m2, m3⟩, hb6, ⟨r0, r1, r2, r3, f0, f1, f2, f3⟩⟩))
  all_goals
    clear HMa HRB
    have hR6 : CellF w6 G false 0 0 none 0 0 := ⟨r0, r1, r2, r3, f0, f1, f2, f3⟩
    have hy6 := Byts.putF hR6 (hyW.below hb6.out) (.bool q) (.int .i64 n1) (.int .i64 n2) (.slice ya yl yc)
    have HI6 : Hid (IsBs ((((w6.setCell ⟨G, 0, none⟩ (.bool q)).setCell ⟨G, 1, none⟩ (.int .i64 n1)).setCell ⟨G, 2, none⟩ (.int .i64 n2)).setCell ⟨G, 3, none⟩ (.slice ya yl yc)) ya yl) := IsBs.putF (HIW.out.below hb6.out) G _ _ _ _
    have hgF := grown_putF (grown_bel hgW hb6.out) HG.out (.bool q) (.int .i64 n1) (.int .i64 n2) (.slice ya yl yc)
    clear hyW hgW HIW hb6 hRW m0 m1 m2 m3 c0 c1 c2 c3 hR6
    go_wp2_with fail
    refine bodyPost_ret (v := .tuple #[.agg #[.bool q, .int .i64 n1, .int .i64 n2, .slice ya yl yc], .bool B]) (by simp [results, Try.results46, go_sem, r0, r1, r2, r3]) rfl ?_
    refine ⟨q, n1, n2, ya, yl, yc, ys, B, rfl, hy6, ⟨yn, fun ad e h0 => ⟨HYF.out ad e h0, HI6.out ad e h0⟩⟩, fun e => ?_, fun e d s a body hr hd => ?_, hgF⟩
    · rw [hB2.out] at e
      exact ⟨e, HH.out⟩
    · obtain ⟨⟨k1, k2, k3, k4⟩, -, -⟩ := ALL.out d s a body hr hd
      subst k1 k2 k3 k4
      rw [← hB2.out, e] at hr
      cases hr
end Go.Proofs.Ytnbdbahfekneoab

namespace Go.Proofs.Ytnbdbahfekneoab
open Go.RowKit

theorem enc_parts {d : Bool} {s a : Int} {body L : List Int} (h : IsEnc d s a body L) : L.drop (L.length - 4) = be4 (sumC (L.take (L.length - 4))) ∧ IsHead d s a body (L.take (L.length - 4)) := by
  obtain ⟨m, h1, rfl⟩ := h
  have e : (m ++ be4 (sumC m)).length - 4 = m.length := by simp [be4]
  rw [e, List.take_left, List.drop_left]
  exact ⟨rfl, h1⟩
theorem parts_enc {d : Bool} {s a : Int} {body L : List Int} (h1 : L.drop (L.length - 4) = be4 (sumC (L.take (L.length - 4)))) (h2 : IsHead d s a body (L.take (L.length - 4))) : IsEnc d s a body L :=
  ⟨_, h2, by rw [← h1, List.take_append_drop]⟩

set_option maxRecDepth 20000 in
set_option maxHeartbeats 6400000 in
theorem f10dec_any (b : Option Addr) (lb cb : Nat) (L : List Int) (w : World) (h : Byts w b lb cb L) (hlen : lb ≤ 140737488355300) :
    Calls Try.prog 24 #[.slice b lb cb] w fun e w' => DecTF L w e w' := by
  have hcap := h.hcap
  have hmax := h.hmax
  unfold maxLen at hmax
  have HL : Hid (L.length = lb) := h.hlen
  have hV := balloc w (.cells #[.bool false, .int .i64 0, .int .i64 0, .slice none 0 0] 63)
  have hR := CellF.new w false 0 0 none 0 0
  obtain ⟨V, hVe⟩ : ∃ V, V = w.alloc (.cells #[.bool false, .int .i64 0, .int .i64 0, .slice none 0 0] 63) := ⟨_, rfl⟩
  have HVe : Hid (V = w.alloc (.cells #[.bool false, .int .i64 0, .int .i64 0, .slice none 0 0] 63)) := hVe
  rw [← hVe] at hV hR
  have h1 := h.below hV
  clear hVe h
  obtain ⟨X, hX⟩ : ∃ X : Bool, X = !decide (4 ≤ lb ∧ L.drop (lb - 4) = be4 (sumC (L.take (lb - 4)))) := ⟨_, rfl⟩
  have HX : Hid (X = !decide (4 ≤ lb ∧ L.drop (lb - 4) = be4 (sumC (L.take (lb - 4))))) := hX
  clear hX
  obtain ⟨e4, he4⟩ : ∃ e4 : Int, (lb : Int) - 4 = e4 := ⟨_, rfl⟩
  go_enter Try.func24, Try.ntmps24
  go_wp2_with fail
  rw [← HVe.out]
  obtain ⟨G, hG⟩ : ∃ G, G = w.heap.size := ⟨_, rfl⟩
  rw [← hG] at hR
  rw [← hG]
  have HG : Hid (w.heap.size ≤ G) := by show _ ≤ _; rw [hG]; exact Nat.le_refl _
  clear HVe hG
  have BAD : ∀ wx : World, (∀ d s a body, rightFr d s a body.length = true → ¬ IsEnc d s a body L) → Below w.heap.size w wx → Hid (DecTF L w (.returned (.tuple #[.agg #[.bool false, .int .i64 0, .int .i64 0, .slice none 0 0], .int .i64 14])) ((((wx.setCell ⟨G, 0, none⟩ (.bool false)).setCell ⟨G, 1, none⟩ (.int .i64 0)).setCell ⟨G, 2, none⟩ (.int .i64 0)).setCell ⟨G, 3, none⟩ (.slice none 0 0))) := fun wx hn hb => ⟨false, 0, 0, none, 0, 0, [], 14, rfl, Byts.nil _, .inr ⟨hn, ⟨rfl, rfl, rfl, rfl⟩, rfl⟩, ⟨fun _ => rfl, fun _ e => (by cases e)⟩, putF_below hb HG.out _ _ _ _⟩
  go_cut [22] (fun v wx => v = .bool X ∧ Below V.heap.size V wx)
  case first =>
    clear BAD hR hV
    by_cases h4 : lb < 4
    · have h4d : decide (e4 < 0) = true := decide_eq_true (by omega)
      have HT : Hid (X = true) := by show _ = _; rw [HX.out, decide_eq_false (fun e => by omega)]; rfl
      clear h1 HX
      go_quiet (fail)
      go_wp2_with fail
      go_meet
      case rel => exact ⟨by rw [HT.out], below_drewN (Below.refl _ _) _⟩
    · obtain ⟨B, off, rfl, -⟩ := h1.cells (by omega)
      obtain ⟨E, rfl⟩ : ∃ E : Nat, e4 = (E : Int) := ⟨lb - 4, by omega⟩
      have hEn : lb - 4 = E := by omega
      have hEl : E + 4 = lb := by omega
      have k1 := h1.take10 (k := E) (by omega)
      have k2 := h1.drop (m := E) (by omega)
      rw [hEn] at HX
      have h4d : decide ((E : Int) < 0) = false := decide_eq_false (by omega)
      have hcE : E ≤ cb := by omega
      have hcE2 : E ≤ lb := by omega
      have hne : ¬ cb = E := by omega
      have hl4 : lb - E = 4 := by omega
      have HRB : Hid (Below V.heap.size V V) := Below.refl _ _
      rw [hl4] at k2
      have HSu : Hid (∀ wx : World, Below V.heap.size V wx → Calls Try.prog 45 #[.slice (some ⟨B, off, none⟩) E cb] wx fun e w' => ∃ q, e = .returned (.slice (some q) 4 4) ∧ Hid (Byts w' (some q) 4 4 (be4 (sumC (L.take E))) ∧ Below V.heap.size V w')) := by
        intro wx hbx
        refine (f10four_any _ _ _ _ wx (k1.below hbx)).mono ?_
        rintro e w' ⟨q, rfl, hq, hb⟩
        exact ⟨q, rfl, hq, bthen hbx hb⟩
      have HEq : Hid (∀ (wx : World) (q : Addr), Byts wx (some q) 4 4 (be4 (sumC (L.take E))) → Below V.heap.size V wx → Calls Try.prog 44 #[.slice (some ⟨B, off + E, none⟩) 4 (cb - E), .slice (some q) 4 4] wx fun e w' => e = .returned (.bool (!X)) ∧ Hid (Below V.heap.size V w')) := by
        intro wx q hq hbx
        refine (equal10_any _ _ _ _ _ _ _ _ wx (k2.below hbx) hq).mono ?_
        rintro e w' ⟨rfl, hb⟩
        refine ⟨?_, bthen hbx hb⟩
        rw [HX.out, Bool.not_not]
        have : decide (4 ≤ lb ∧ L.drop E = be4 (sumC (L.take E))) = decide (L.drop E = be4 (sumC (L.take E))) := by
          rw [decide_eq_decide]
          exact ⟨fun h => h.2, fun h => ⟨by omega, h⟩⟩
        rw [this]
      clear k1 k2 h1 HX hEn h4
      go_region_held3 (fun _ => True) (trivial)
        (first
        | (go_at_call 45; with_reducible refine Calls.mono (HSu.out _ ?_) ?_; (focus (repeat (first | exact HRB.out | refine bdrX' ?_ | refine bgrX ?_ _))); rintro e w3 ⟨q, rfl, hS3⟩)
        | (go_at_call 44; with_reducible refine Calls.mono (HEq.out _ q ?_ ?_) ?_; (focus (first | exact hS3.out.1 | exact hS3.out.1.below (bdrX _))); (focus (repeat (first | exact hS3.out.2 | refine bdrX' ?_ | refine bgrX ?_ _))); rintro e w4 ⟨rfl, hB4⟩))
      all_goals
        clear HSu HEq HRB
        go_wp2_with fail
        go_meet
        case rel => exact ⟨by first | rfl | simp, hB4.out⟩
  case rest =>
    obtain ⟨rfl, hbc⟩ := hcut
    have hRc := hR.below hbc
    have hBc := bthen hV hbc
    have h2 := h1.below hbc
    clear hR hV h1 hbc
    cases X with
    | true =>
      have HB := BAD wc (fun d s a body hr he => by
        have e := HX.out
        have k := (enc_parts he).1
        have l8 := (dec_first he hr).1
        rw [HL.out] at k l8
        rw [decide_eq_true ⟨by omega, k⟩] at e
        cases e) hBc
      obtain ⟨r0, r1, r2, r3, f0, f1, f2, f3⟩ := hRc
      clear BAD h2 hBc HX
      go_wp2_with fail
      exact bodyPost_ret (v := .tuple #[.agg #[.bool false, .int .i64 0, .int .i64 0, .slice none 0 0], .int .i64 14]) (by simp [results, Try.results24, go_sem, r0, r1, r2, r3]) rfl HB.out
    | false =>
      have hXX : 4 ≤ lb ∧ L.drop (lb - 4) = be4 (sumC (L.take (lb - 4))) := by
        have e := HX.out
        exact of_decide_eq_true (by cases hd : decide (4 ≤ lb ∧ L.drop (lb - 4) = be4 (sumC (L.take (lb - 4)))) with | true => rfl | false => rw [hd] at e; cases e)
      obtain ⟨h4, hXs⟩ := hXX
      obtain ⟨B, off, rfl, -⟩ := h2.cells (by omega)
      obtain ⟨E, rfl⟩ : ∃ E : Nat, e4 = (E : Int) := ⟨lb - 4, by omega⟩
      have hEn : lb - 4 = E := by omega
      have k1 := h2.take10 (k := E) (by omega)
      have hcE : E ≤ cb := by omega
      have HP : Hid (L.drop (L.length - 4) = be4 (sumC (L.take (L.length - 4))) ∧ L.take (L.length - 4) = L.take E) := by
        rw [HL.out]
        exact ⟨hXs, by rw [hEn]⟩
      have hE3 : E ≤ 140737488355300 := by omega
      clear hXs HX h4 hEn
      go_wp2_with fail
      refine (c9new_any _ _ _ _ _ k1 hE3).mono ?_
      rintro e w2 ⟨g, rfl, hg, hA, hb2⟩
      have hR2 := hRc.below hb2
      have hB2 := bthen hBc hb2
      have hGg : G ≠ g := by have := hRc.lt; omega
      have hwg : w.heap.size ≤ g := Nat.le_trans hBc.size hg
      clear hRc hBc h2 k1
      go_wp2_with fail
      refine (f10read_any g _ _ hA).mono ?_
      rintro e w3 ⟨d, s, a, p, l, c, ys, ok, rfl, hy, hyf, hok, hno, hgr⟩
      have hR3 := hR2.grown hgr hGg
      have hB3 : Below w.heap.size w w3 := hB2.grown hgr hB2.size (fun q hq => by cases hq; exact hwg)
      have HYF : Hid (∀ ad, p = some ad → 0 < l → w.heap.size ≤ ad.block) := fun ad e h0 => Nat.le_trans hB2.size (hyf.2 ad e h0).1
      have HI3 : Hid (IsBs w3 p l) := fun ad e h0 => (hyf.2 ad e h0).2
      have HPN : Hid (p = none → c = 0) := hyf.1
      have hFn := balloc w3 (.cells #[.bool d, .int .i64 s, .int .i64 a, .slice p l c] 63)
      have hR4 := hR3.below hFn
      have HF := CellF.new w3 d s a p l c
      have hy4 := hy.below hFn
      have HI4 : Hid (IsBs (w3.alloc (.cells #[.bool d, .int .i64 s, .int .i64 a, .slice p l c] 63)) p l) := HI3.out.below hFn
      have hB4 := bthen hB3 hFn
      obtain ⟨r0, r1, r2, r3, f0, f1, f2, f3⟩ := hR4
      have hRc : CellF (w3.alloc (.cells #[.bool d, .int .i64 s, .int .i64 a, .slice p l c] 63)) G false 0 0 none 0 0 := ⟨r0, r1, r2, r3, f0, f1, f2, f3⟩
      have HOK : Hid (ok = true → rightFr d s a ys.length = true ∧ IsHead d s a ys (L.take E)) := hok
      have HNO : Hid (ok = false → ∀ d s a body, rightFr d s a body.length = true → ¬ IsHead d s a body (L.take E)) := hno
      clear hR2 hB2 hgr hyf hok hno hB3 hFn hR3 hy HI3 hb2 hA hg
      cases ok with
      | false =>
        have HB := BAD _ (fun d s a body hr he => HNO.out rfl d s a body hr (by have := (enc_parts he).2; rwa [HP.out.2] at this)) hB4
        clear BAD hB4 hy4 HF hRc
        go_wp2_with fail
        exact bodyPost_ret (v := .tuple #[.agg #[.bool false, .int .i64 0, .int .i64 0, .slice none 0 0], .int .i64 14]) (by simp [results, Try.results24, go_sem, r0, r1, r2, r3]) rfl HB.out
      | true =>
        have HD : Hid (ResDecF L d s a ys 0) := .inl ⟨(HOK.out rfl).1, parts_enc HP.out.1 (by rw [HP.out.2]; exact (HOK.out rfl).2), rfl⟩
        have k1 := Byts.putF hRc hy4 (.bool d) (.int .i64 s) (.int .i64 a) (.slice p l c)
        have hBB := putF_below hB4 HG.out (.bool d) (.int .i64 s) (.int .i64 a) (.slice p l c)
        have HI5 := IsBs.putF HI4.out G (.bool d) (.int .i64 s) (.int .i64 a) (.slice p l c)
        obtain ⟨F0, F1, F2, F3, -, -, -, -⟩ := HF
        clear BAD hB4 hy4 hRc
        go_wp2_with fail
        exact bodyPost_ret (v := .tuple #[.agg #[.bool d, .int .i64 s, .int .i64 a, .slice p l c], .int .i64 0]) (by simp [results, Try.results24, go_sem, r0, r1, r2, r3]) rfl ⟨_, _, _, _, _, _, _, _, rfl, k1, HD.out, ⟨HPN.out, fun ad e h0 => ⟨HYF.out ad e h0, HI5 ad e h0⟩⟩, hBB⟩
theorem dec_ok10 : DecOk10 := fun b lb cb L w h _ hlen => f10dec_any b lb cb L w h hlen
end Go.Proofs.Ytnbdbahfekneoab

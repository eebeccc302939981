/-
  Contracts of the program's step, eightSteps, Sum and sumBytes (frame).
  Contracts of the program's isCount, mayBe, kind (frame) and of slices.Equal of bytes.
  Contracts of slices.Equal, slices.Grow and slices.Concat of bytes.
-/
import Derived.Test.YtjokbikelklaiaaP10LawsO
import Derived.Deep.WholeRow
import Derived.BigQuiet
import Derived.Lib.AppendZeros
namespace Go.Proofs.Ytjokbikelklaiaa
open Go.RowKit

set_option maxHeartbeats 800000 in
theorem f10step_any (q : Nat) (w : World) (hq : q < 4294967296) : Calls Try.prog 70 #[.int .u32 q] w fun e w' => e = .returned (.int .u32 ((stepC q : Nat) : Int)) ∧ w = w' := by
  by_cases ho : q % 2 = 1
  · have hoi : (q : Int) % 2 = 1 := by omega
    have HX : Hid (bits .xor .u32 ((q : Int) / 2) 3988292384 = ((stepC q : Nat) : Int)) := bits_step hq ho
    clear ho
    go_enter Try.func70, Try.ntmps70
    go_wp2
    go_ret
    exact ⟨ret_int HX.out, rfl⟩
  · have hoi : ((q : Int) % 2 == 1) = false := by simp; omega
    have HX : Hid ((q : Int) / 2 = ((stepC q : Nat) : Int)) := step_even ho
    clear ho
    go_enter Try.func70, Try.ntmps70
    go_wp2
    go_ret
    exact ⟨ret_int HX.out, rfl⟩

/-- A table of 256 numbers in memory. -/
def Tab10 (w : World) (g : Nat) (cur : Array Value) : Prop := w.heap[g]? = some (.cells cur 100 (0, 0)) ∧ cur.size = 256 ∧ ∀ j, j < 256 → ∃ x : Int, cur[j]? = some (.int .u32 x)
theorem Tab10.lt {w : World} {g : Nat} {cur : Array Value} (h : Tab10 w g cur) : g < w.heap.size := (Array.getElem?_eq_some_iff.1 h.1).1
theorem Tab10.cell {w : World} {g : Nat} {cur : Array Value} (h : Tab10 w g cur) (j : Nat) : w.cell? ⟨g, j, none⟩ = cur[j]? := cell_of_row _ _ _ _ _ _ h.1
theorem Tab10.frozen {w : World} {g : Nat} {cur : Array Value} (h : Tab10 w g cur) (j : Nat) : w.frozen? ⟨g, j, none⟩ = false := frozen_of_row _ _ _ _ _ h.1
theorem Tab10.one {w : World} {g : Nat} {cur : Array Value} (h : Tab10 w g cur) : cur.all (·.oneCell') = true := by
  rw [Array.all_eq_true_iff_forall_mem]
  intro x hx
  obtain ⟨j, hj, rfl⟩ := Array.getElem_of_mem hx
  obtain ⟨y, hy⟩ := h.2.2 j (by rw [← h.2.1]; exact hj)
  rw [Array.getElem?_eq_getElem hj] at hy
  simp only [Option.some.injEq] at hy
  rw [hy]; rfl
theorem Tab10.below {w w' : World} {g : Nat} {cur : Array Value} (h : Tab10 w g cur) (hb : Below w.heap.size w w') : Tab10 w' g cur := ⟨(hb.block g h.lt).trans h.1, h.2⟩
theorem Tab10.set {w : World} {g : Nat} {cur : Array Value} (h : Tab10 w g cur) (i : Nat) (x : Int) : Tab10 (w.setCell ⟨g, i, none⟩ (.int .u32 x)) g (cur.setIfInBounds i (.int .u32 x)) := by
  refine ⟨heap_setCell_same w g i _ _ _ h.1, by rw [Array.size_setIfInBounds]; exact h.2.1, fun j hj => ?_⟩
  by_cases e : i = j
  · subst e
    exact ⟨x, Array.getElem?_setIfInBounds_self_of_lt (by rw [h.2.1]; exact hj)⟩
  · obtain ⟨y, hy⟩ := h.2.2 j hj
    exact ⟨y, by rw [Array.getElem?_setIfInBounds_ne e]; exact hy⟩
theorem Tab10.other {w : World} {g k : Nat} {cur : Array Value} (h : Tab10 w g cur) (hk : g ≠ k) (i : Nat) (v : Value) : Tab10 (w.setCell ⟨k, i, none⟩ v) g cur := ⟨(heap_setCell_other w ⟨k, i, none⟩ g v hk).trans h.1, h.2⟩
def zeros10 : Array Value := Array.replicate 256 (.int .u32 0)
theorem Tab10.new (w : World) : Tab10 (w.alloc (.cells zeros10 100)) w.heap.size zeros10 :=
  ⟨heap_alloc_new _ _, by unfold zeros10; simp, fun j hj => ⟨0, by unfold zeros10; simp [hj]⟩⟩
theorem Try.info10 : (Try.prog.info? 100).map (fun i => (i.zero, i.size)) = some (some (.agg zeros10), 256) := by kernel_rfl

set_option maxRecDepth 20000 in
set_option maxHeartbeats 1600000 in
theorem f10table_any (w : World) : Calls Try.prog 67 #[] w fun e w' => ∃ cur : Array Value, e = .returned (.agg cur) ∧ cur.size = 256 ∧ (∀ j, j < 256 → cur[j]? = some (.int .u32 ((stepsC 8 j : Nat) : Int))) ∧ Below w.heap.size w w' := by
  obtain ⟨zv, zs⟩ := zero_of_info Try.info10
  have N1 := Tab10.new w
  have N2 := Tab10.new (w.alloc (.cells zeros10 100))
  have B1 := balloc w (.cells zeros10 100)
  have B2 := balloc (w.alloc (.cells zeros10 100)) (.cells zeros10 100)
  replace N1 := N1.below B2
  rw [World.size_alloc] at N2
  have B12 := bthen B1 B2
  generalize zeros10 = Z at *
  clear B1 B2
  go_enter Try.func67, Try.ntmps67
  go_wp2
  go_loopw [4] (fun v4 wr => ∃ i : Nat, i ≤ 256 ∧ v4 = .int .u32 i ∧ ∃ cur, Tab10 wr (w.heap.size + 1) cur ∧ (∃ c0, Tab10 wr w.heap.size c0) ∧ Hid (∀ j, j < i → cur[j]? = some (.int .u32 ((stepsC 8 j : Nat) : Int))) ∧ Below w.heap.size w wr) (fun v4 _ => 256 - (intOf v4).toNat)
  case atStart => exact ⟨0, by omega, rfl, Z, N2, ⟨Z, N1⟩, fun j hj => by omega, B12⟩
  case round =>
    obtain ⟨i, hi, rfl, cur, hA, ⟨c0, hC⟩, HS, hbr⟩ := hrel
    clear N1 N2 B12
    have hlt0 := hA.lt
    by_cases hlt : i < 256
    · have hlti : (i : Int) < 256 := by omega
      have HA : Hid (Tab10 wr (w.heap.size + 1) cur ∧ Tab10 wr w.heap.size c0) := ⟨hA, hC⟩
      clear hA hC
      go_wp2
      go_loopw [3, 8] (fun v3 v8 wq => ∃ q k : Nat, v3 = .int .u32 q ∧ v8 = .int .i64 k ∧ k ≤ 8 ∧ Hid (q < 4294967296 ∧ stepsC (8 - k) q = stepsC 8 i) ∧ wr = wq) (fun _ v8 _ => 8 - (intOf v8).toNat)
      case atStart => exact ⟨i, 0, rfl, rfl, by omega, ⟨by omega, rfl⟩, rfl⟩
      case round =>
        obtain ⟨q, k, rfl, rfl, hk, HQ, rfl⟩ := hrel
        by_cases hk8 : k < 8
        · have hk8i : (k : Int) < 8 := by omega
          have HN : Hid (stepC q < 4294967296 ∧ stepsC (8 - (k + 1)) (stepC q) = stepsC 8 i) := ⟨stepC_lt HQ.out.1, by rw [← steps_on hk8]; exact HQ.out.2⟩
          go_wp2_with fail
          refine (f10step_any q _ HQ.out.1).mono ?_
          rintro e w2 ⟨rfl, rfl⟩
          generalize stepC q = q' at *
          clear HQ
          go_wp2
          go_roundw
          case rel => exact ⟨q', k + 1, rfl, by go_num, by omega, HN, by first | rfl | trivial⟩
          case measure => simp [intOf]; omega
        · obtain rfl : k = 8 := by omega
          have hq : stepsC 8 i = q := by
            have := HQ.out.2
            rw [show 8 - 8 = 0 by rfl] at this
            exact this.symm
          obtain ⟨x, hold⟩ := HA.out.1.2.2 i hlt
          have hc2 : wr.cell? ⟨w.heap.size + 1, i, none⟩ = some (.int .u32 x) := by rw [HA.out.1.cell]; exact hold
          have hf2 : wr.frozen? ⟨w.heap.size + 1, i, none⟩ = false := HA.out.1.frozen _
          have HP : Hid (Tab10 (wr.setCell ⟨w.heap.size + 1, i, none⟩ (.int .u32 q)) (w.heap.size + 1) (cur.setIfInBounds i (.int .u32 q)) ∧ Tab10 (wr.setCell ⟨w.heap.size + 1, i, none⟩ (.int .u32 q)) w.heap.size c0 ∧ (∀ j, j < i + 1 → (cur.setIfInBounds i (.int .u32 q))[j]? = some (.int .u32 ((stepsC 8 j : Nat) : Int))) ∧ Below w.heap.size w (wr.setCell ⟨w.heap.size + 1, i, none⟩ (.int .u32 q))) := by
            refine ⟨HA.out.1.set i q, HA.out.2.other (by omega) _ _, fun j hj => ?_, hbr.setCell (by simp) _⟩
            by_cases e : i = j
            · subst e
              rw [hq]
              exact Array.getElem?_setIfInBounds_self_of_lt (by rw [HA.out.1.2.1]; exact hlt)
            · rw [Array.getElem?_setIfInBounds_ne e]
              exact HS.out j (by omega)
          clear HQ hq hold HA HS hbr
          go_wp2
          go_roundw
          case rel => exact ⟨i + 1, by omega, by go_num, _, HP.out.1, ⟨c0, HP.out.2.1⟩, HP.out.2.2.1, HP.out.2.2.2⟩
          case measure => simp [intOf]; omega
    · obtain rfl : i = 256 := by omega
      have HX : Hid (cur.size = 256 ∧ (∀ j, j < 256 → cur[j]? = some (.int .u32 ((stepsC 8 j : Nat) : Int))) ∧ Below w.heap.size w (wr.setRow w.heap.size cur)) := ⟨hA.2.1, HS.out, below_setRow hbr (Nat.le_refl _) _⟩
      have HI : (Try.prog.info? 100).map (·.size) = some cur.size := by rw [hA.2.1]; exact zs
      have HG := setRow_heap wr w.heap.size c0 cur 100 (0, 0) hC.1
      clear zs
      go_wp2_with (first
        | refine wpList_load_row rfl 100 _ rfl (w.heap.size + 1) rfl 100 cur (0, 0) _ hA.1 Try.underlying100 rfl HI ?_
        | refine wpList_store_row rfl 100 _ _ rfl w.heap.size cur rfl rfl 100 c0 hC.1 HI (by rw [hC.2.1, hA.2.1]) hA.one ?_)
      refine bodyPost_ret (results_cell_row rfl _ _ w.heap.size 100 cur (0, 0) _ rfl HG Try.underlying100 rfl HI) rfl ?_
      exact ⟨cur, rfl, HX.out.1, HX.out.2.1, HX.out.2.2⟩

theorem bits_xor8 (a b : Nat) (ha : a < 256) (hb : b < 256) : bits .xor .u8 (a : Int) (b : Int) = ((a ^^^ b : Nat) : Int) := by
  have h : a ^^^ b < 256 := Nat.xor_lt_two_pow (n := 8) ha hb
  show IntKind.u8.wrap (((BitVec.ofInt 8 (a : Int) ^^^ BitVec.ofInt 8 (b : Int)).toNat : Nat) : Int) = _
  have e1 : (BitVec.ofInt 8 (a : Int)).toNat = a := by
    rw [BitVec.toNat_ofInt]
    omega
  have e2 : (BitVec.ofInt 8 (b : Int)).toNat = b := by
    rw [BitVec.toNat_ofInt]
    omega
  rw [BitVec.toNat_xor, e1, e2]
  simp only [IntKind.wrap, IntKind.signed, IntKind.bits]
  simp
  omega
/-- A byte's place in the table, and what the table makes of it. -/
theorem byte_at {r b : Nat} (hb : b < 256) : (r % 256 ^^^ b) = (r ^^^ b) % 256 := by
  have := Nat.xor_mod_two_pow (a := r) (b := b) (n := 8)
  rw [show (2 : Nat) ^ 8 = 256 by rfl, Nat.mod_eq_of_lt hb] at this
  exact this.symm
theorem byte_tab {r b : Nat} (hr : r < 4294967296) (hb : b < 256) : bits .xor .u32 ((r : Int) / 256) ((stepsC 8 (r % 256 ^^^ b) : Nat) : Int) = ((byteC r b : Nat) : Int) := by
  have h := bits_xor32 (r / 256) (stepsC 8 (r % 256 ^^^ b)) (by omega) (stepsC_lt 8 (by rw [byte_at hb]; omega))
  rw [show ((r : Int) / 256) = ((r / 256 : Nat) : Int) by omega, h, byteC_table hb, byte_at hb, Nat.xor_comm]

set_option maxRecDepth 20000 in
set_option maxHeartbeats 1600000 in
theorem f10sum_any (a : Option Addr) (la ca : Nat) (bs : List Int) (w : World) (h : Byts w a la ca bs) :
    Calls Try.prog 60 #[.slice a la ca] w fun e w' => e = .returned (.int .u32 (sumC bs : Int)) ∧ Below w.heap.size w w' := by
  obtain ⟨zv, zs⟩ := zero_of_info Try.info10
  have hl := h.hlen
  have hc := h.hcap
  have hm := h.hmax
  unfold maxLen at hm
  obtain ⟨R, hR⟩ : ∃ R, R = runC 4294967295 bs := ⟨_, rfl⟩
  have HR : Hid (R = runC 4294967295 bs) := hR
  have HS : Hid (sumC bs = R ^^^ 4294967295) := by show _ = _; rw [HR.out]; rfl
  have HL : Hid (bs.length = la) := hl
  obtain ⟨s, hs⟩ : ∃ s, s = sumC bs := ⟨_, rfl⟩
  rw [← hs] at HS ⊢
  clear hR hl hs
  go_enter Try.func60, Try.ntmps60
  go_wp2_with fail
  refine (f10table_any w).mono ?_
  rintro e w1 ⟨cur, rfl, hsz, hT, hb1⟩
  have hnew := Tab10.new w1
  have hB := bthen hb1 (balloc w1 (.cells zeros10 100))
  have hB3 := below_setRow hB (g := w1.heap.size) hb1.size cur
  have hcells : ∀ j, ((w1.alloc (.cells zeros10 100)).setRow w1.heap.size cur).cell? ⟨w1.heap.size, j, none⟩ = cur[j]? := fun j => cell_setRow_same _ _ _ _ _ _ _ hnew.1
  have HI : (Try.prog.info? 100).map (·.size) = some cur.size := by rw [hsz]; exact zs
  have hone : cur.all (·.oneCell') = true := Tab10.one (w := (w1.alloc (.cells cur 100))) (g := w1.heap.size) ⟨heap_alloc_new _ _, hsz, fun j hj => ⟨_, hT j hj⟩⟩
  have HT : Hid (∀ j, j < 256 → ((w1.alloc (.cells zeros10 100)).setRow w1.heap.size cur).cell? ⟨w1.heap.size, j, none⟩ = some (.int .u32 ((stepsC 8 j : Nat) : Int))) := fun j hj => (hcells j).trans (hT j hj)
  clear hcells hT hB hb1 zs
  have hz : zeros10.size = 256 := by unfold zeros10; simp
  generalize zeros10 = Z at *
  go_wp2_with (refine wpList_store_row rfl 100 _ _ rfl w1.heap.size cur rfl rfl 100 Z hnew.1 HI (by rw [hsz, hz]) hone ?_)
  obtain ⟨W, hW⟩ : ∃ W, W = (w1.alloc (.cells Z 100)).setRow w1.heap.size cur := ⟨_, rfl⟩
  have H : Hid (Byts W a la ca bs) := by show Byts _ _ _ _ _; rw [hW]; exact h.below hB3
  rw [← hW] at hB3 HT
  rw [← hW]
  clear hW hnew HI hone hz h zv hsz
  generalize w1.heap.size = g at *
  go_loopw [4, 10] (fun v4 v10 wr => ∃ r i : Nat, v4 = .int .u32 r ∧ v10 = .int .i64 i ∧ i ≤ la ∧ Hid (r < 4294967296 ∧ runC r (bs.drop i) = R) ∧ W = wr) (fun _ v10 _ => la - (intOf v10).toNat)
  case atStart => exact ⟨4294967295, 0, rfl, rfl, Nat.zero_le _, ⟨by decide, by rw [HR.out]; rfl⟩, rfl⟩
  case round =>
    obtain ⟨r, i, rfl, rfl, hi, HI, rfl⟩ := hrel
    by_cases hlt : i < la
    · have hlti : (i : Int) < (la : Int) := by omega
      obtain ⟨b, off, rfl, hcell⟩ := H.out.cells (by omega)
      have c0 := hcell i hlt
      have hbb := H.out.word (bs.getD i 0) (by
        have : i < bs.length := by rw [HL.out]; exact hlt
        simp [List.getD, this])
      obtain ⟨x, hx⟩ : ∃ x : Nat, (x : Int) = bs.getD i 0 := ⟨(bs.getD i 0).toNat, by omega⟩
      rw [← hx] at c0 hbb
      have hx256 : x < 256 := by omega
      have hr := HI.out.1
      have HB : Hid (runC (byteC r x) (bs.drop (i + 1)) = R) := by
        have e := HI.out.2
        rw [drop_cons (by rw [HL.out]; exact hlt), ← hx] at e
        exact e
      have hix := bits_xor8 (r % 256) x (by omega) hx256
      rw [show ((r % 256 : Nat) : Int) = (r : Int) % 256 by omega] at hix
      have hk : r % 256 ^^^ x < 256 := Nat.xor_lt_two_pow (n := 8) (by omega) hx256
      have ht := HT.out (r % 256 ^^^ x) hk
      have HE : Hid (bits .xor .u32 ((r : Int) / 256) ((stepsC 8 (r % 256 ^^^ x) : Nat) : Int) = ((byteC r x : Nat) : Int)) := byte_tab hr hx256
      have HQ : Hid (byteC r x < 4294967296) := byteC_lt hr hx256
      obtain ⟨k, hke⟩ : ∃ k, k = r % 256 ^^^ x := ⟨_, rfl⟩
      rw [← hke] at hix hk ht HE
      obtain ⟨t, hte⟩ : ∃ t, t = stepsC 8 k := ⟨_, rfl⟩
      rw [← hte] at ht HE
      clear hcell HI hx hke hte hbb
      generalize byteC r x = q at *
      go_wp2
      go_roundw
      case rel => exact ⟨q, i + 1, by rw [HE.out], by go_num, by omega, ⟨HQ.out, HB.out⟩, by first | rfl | trivial⟩
      case measure => simp [intOf]; omega
    · obtain rfl : i = la := by omega
      have HE : Hid (bits .xor .u32 (r : Int) 4294967295 = (s : Int)) := by
        show _ = _
        have hr := HI.out.2
        rw [List.drop_eq_nil_of_le (by rw [HL.out]; exact Nat.le_refl _)] at hr
        rw [bits_all HI.out.1, HS.out, show r = R from hr]
      clear HI
      go_wp2
      go_ret
      exact ⟨ret_int HE.out, hB3⟩
theorem sum_ok10 : SumOk10 := fun a la ca bs w h _ _ => f10sum_any a la ca bs w h

set_option maxHeartbeats 800000 in
theorem f10four_any (a : Option Addr) (la ca : Nat) (bs : List Int) (w : World) (h : Byts w a la ca bs) :
    Calls Try.prog 48 #[.slice a la ca] w fun e w' => ∃ b, e = .returned (.slice (some b) 4 4) ∧ Byts w' (some b) 4 4 (be4 (sumC bs)) ∧ Below w.heap.size w w' := by
  have hs := sumC_lt h.digs
  go_enter Try.func48, Try.ntmps48
  go_wp2_with fail
  refine (f10sum_any a la ca bs w h).mono ?_
  rintro e w1 ⟨rfl, hb1⟩
  obtain ⟨T, hT⟩ : ∃ T, T = sumC bs := ⟨_, rfl⟩
  have HT : Hid (T = sumC bs) := hT
  rw [← hT] at hs
  rw [← hT]
  have hlit := Byts.lit4 w1 ((T : Int) / 16777216) ((T : Int) / 65536 % 256) ((T : Int) / 256 % 256) ((T : Int) % 256) (by omega) (by omega) (by omega) (by omega)
  have HB4 : Hid (Byts (w1.alloc (.cells #[.int .u8 ((T : Int) / 16777216), .int .u8 ((T : Int) / 65536 % 256), .int .u8 ((T : Int) / 256 % 256), .int .u8 ((T : Int) % 256)] 5)) (some ⟨w1.heap.size, 0, none⟩) 4 4 (be4 (sumC bs))) := by
    rw [← hT]
    have e : [(T : Int) / 16777216, (T : Int) / 65536 % 256, (T : Int) / 256 % 256, (T : Int) % 256] = be4 T := by
      unfold be4
      rw [show (T : Int) / 16777216 = ((T / 16777216 % 256 : Nat) : Int) by omega, show (T : Int) / 65536 % 256 = ((T / 65536 % 256 : Nat) : Int) by omega, show (T : Int) / 256 % 256 = ((T / 256 % 256 : Nat) : Int) by omega, show (T : Int) % 256 = ((T % 256 : Nat) : Int) by omega]
    rw [← e]
    exact hlit
  have hB := bthen hb1 (balloc w1 (.cells #[.int .u8 ((T : Int) / 16777216), .int .u8 ((T : Int) / 65536 % 256), .int .u8 ((T : Int) / 256 % 256), .int .u8 ((T : Int) % 256)] 5))
  clear hT h hlit
  go_wp2
  go_ret
  exact ⟨_, rfl, HB4.out, hB⟩
end Go.Proofs.Ytjokbikelklaiaa

namespace Go.Proofs.Ytjokbikelklaiaa
open Go.RowKit

def cntB (n : Int) : Bool := decide (0 ≤ n ∧ n ≤ 1073741824)
theorem cntB_iff {n : Int} : cntB n = true ↔ 0 ≤ n ∧ n ≤ 1073741824 := by unfold cntB; simp
set_option maxHeartbeats 800000 in
theorem f10count_any (n : Int) (w : World) : Calls Try.prog 65 #[.int .i64 n] w fun e w' => e = .returned (.bool (cntB n)) ∧ w = w' := by
  by_cases h1 : 0 ≤ n
  · by_cases h2 : n ≤ 1073741824
    · have HE : Hid (true = cntB n) := (cntB_iff.2 ⟨h1, h2⟩).symm
      go_enter Try.func65, Try.ntmps65
      go_wp2
      go_ret
      exact ⟨ret_bool HE.out, rfl⟩
    · have HE : Hid (false = cntB n) := (Bool.eq_false_iff.2 (fun h => h2 (cntB_iff.1 h).2)).symm
      have h2d : decide (n ≤ 1073741824) = false := decide_eq_false h2
      go_enter Try.func65, Try.ntmps65
      go_wp2
      go_ret
      exact ⟨ret_bool HE.out, rfl⟩
  · have HE : Hid (false = cntB n) := (Bool.eq_false_iff.2 (fun h => h1 (cntB_iff.1 h).1)).symm
    have h1d : decide (0 ≤ n) = false := decide_eq_false h1
    go_enter Try.func65, Try.ntmps65
    go_wp2
    go_ret
    exact ⟨ret_bool HE.out, rfl⟩

theorem bool_not {p q : Bool} (h : p = true → q = true → False) : (p && q) = false := by
  cases p <;> cases q <;> simp at *

set_option maxRecDepth 20000 in
set_option maxHeartbeats 3200000 in
theorem f10may_any (d : Bool) (s a : Int) (b : Option Addr) (lb cb : Nat) (w : World) (hlb : lb < 9223372036854775808) :
    Calls Try.prog 55 #[.agg #[.bool d, .int .i64 s, .int .i64 a, .slice b lb cb]] w fun e w' => e = .returned (.bool (rightFr d s a lb)) ∧ Below w.heap.size w w' := by
  have hV := balloc w (.cells #[.bool d, .int .i64 s, .int .i64 a, .slice b lb cb] 65)
  have NO : (0 ≤ s ∧ s ≤ 1073741824 ∧ 0 ≤ a ∧ a ≤ 1073741824 ∧ lb ≤ 1048576 ∧ (d = true ∨ s = 0 ∧ lb = 0) → False) → Hid (false = rightFr d s a lb) := fun h => (Bool.eq_false_iff.2 (fun e => h ((rightFr_iff d s a lb).1 e))).symm
  have YES : (0 ≤ s ∧ s ≤ 1073741824 ∧ 0 ≤ a ∧ a ≤ 1073741824 ∧ lb ≤ 1048576 ∧ (d = true ∨ s = 0 ∧ lb = 0)) → Hid (true = rightFr d s a lb) := fun h => ((rightFr_iff d s a lb).2 h).symm
  by_cases hd : d = true ∨ s = 0 ∧ lb = 0
  case neg =>
    have hd0 : d = false := by cases d <;> simp at hd ⊢
    subst hd0
    have HE := NO (fun h => hd h.2.2.2.2.2)
    clear NO YES
    by_cases h6 : s = 0
    · have h7 : (0 : Int) < (lb : Int) := by simp at hd; omega
      subst h6
      clear hd
      go_enter Try.func55, Try.ntmps55
      go_wp2
      go_ret
      exact ⟨ret_bool HE.out, hV⟩
    · have h6d : (s == 0) = false := by simp; omega
      have h6e : (s != 0) = true := by simp; omega
      clear hd
      go_enter Try.func55, Try.ntmps55
      go_wp2
      go_ret
      exact ⟨ret_bool HE.out, hV⟩
  have HC := @cntB_iff
  have KS : ∀ wx : World, Hid (Calls Try.prog 65 #[.int .i64 s] wx fun e w' => e = .returned (.bool (cntB s)) ∧ wx = w') := fun wx => f10count_any s wx
  have KA : ∀ wx : World, Hid (Calls Try.prog 65 #[.int .i64 a] wx fun e w' => e = .returned (.bool (cntB a)) ∧ wx = w') := fun wx => f10count_any a wx
  have HD : d = true ∨ d = false ∧ s = 0 ∧ lb = 0 := by
    rcases hd with h | h
    · exact .inl h
    · cases d
      · exact .inr ⟨rfl, h⟩
      · exact .inl rfl
  have HE : Hid ((if cntB s then (if cntB a then decide ((lb : Int) ≤ 1048576) else false) else false) = rightFr d s a lb) := by
    show _ = _
    by_cases k1 : cntB s = true
    · by_cases k2 : cntB a = true
      · rw [if_pos k1, if_pos k2]
        by_cases k3 : lb ≤ 1048576
        · rw [decide_eq_true (by omega)]
          exact (YES ⟨(HC.1 k1).1, (HC.1 k1).2, (HC.1 k2).1, (HC.1 k2).2, k3, hd⟩).out
        · rw [decide_eq_false (by omega)]
          exact (NO (fun h => k3 h.2.2.2.2.1)).out
      · rw [if_pos k1, if_neg k2]
        exact (NO (fun h => k2 (HC.2 ⟨h.2.2.1, h.2.2.2.1⟩))).out
    · rw [if_neg k1]
      exact (NO (fun h => k1 (HC.2 ⟨h.1, h.2.1⟩))).out
  clear NO YES hd HC
  generalize cntB s = B1 at *
  generalize cntB a = B2 at *
  have h8 : decide ((lb : Int) ≤ 1048576) = true ∨ decide ((lb : Int) ≤ 1048576) = false := by cases decide ((lb : Int) ≤ 1048576) <;> simp
  rcases HD with rfl | ⟨rfl, rfl, rfl⟩
  all_goals
    cases B1 with
    | false =>
      go_enter Try.func55, Try.ntmps55
      go_wp2_with fail
      refine (KS _).out.mono ?_
      rintro e w1 ⟨rfl, rfl⟩
      clear KS KA
      go_wp2_with fail
      go_ret
      exact ⟨ret_bool (by have := HE.out; simpa using this), hV⟩
    | true =>
      cases B2 with
      | false =>
        go_enter Try.func55, Try.ntmps55
        go_wp2_with fail
        refine (KS _).out.mono ?_
        rintro e w1 ⟨rfl, rfl⟩
        clear KS
        go_wp2_with fail
        refine (KA _).out.mono ?_
        rintro e w1 ⟨rfl, rfl⟩
        clear KA
        go_wp2_with fail
        go_ret
        exact ⟨ret_bool (by have := HE.out; simpa using this), hV⟩
      | true =>
        rcases h8 with h8 | h8
        all_goals
          go_enter Try.func55, Try.ntmps55
          go_wp2_with fail
          refine (KS _).out.mono ?_
          rintro e w1 ⟨rfl, rfl⟩
          clear KS
          go_wp2_with fail
          refine (KA _).out.mono ?_
          rintro e w1 ⟨rfl, rfl⟩
          clear KA
          go_wp2_with fail
          go_ret
          exact ⟨ret_bool (by have := HE.out; simpa [h8] using this), hV⟩

set_option maxHeartbeats 800000 in
theorem f10kind_any (d : Bool) (s a : Int) (b : Option Addr) (lb cb : Nat) (w : World) :
    Calls Try.prog 57 #[.agg #[.bool d, .int .i64 s, .int .i64 a, .slice b lb cb]] w fun e w' => e = .returned (.int .u8 (if d then 1 else 0)) ∧ Below w.heap.size w w' := by
  have hV := balloc w (.cells #[.bool d, .int .i64 s, .int .i64 a, .slice b lb cb] 65)
  cases d
  all_goals
    go_enter Try.func57, Try.ntmps57
    go_wp2
    go_ret
    exact ⟨rfl, hV⟩
end Go.Proofs.Ytjokbikelklaiaa

namespace Go.Proofs.Ytjokbikelklaiaa
open Go.RowKit

theorem eq_all10 {xs ys : List Int} (hl : xs.length = ys.length) (h : ∀ j, j < xs.length → xs.getD j 0 = ys.getD j 0) : xs = ys := by
  refine List.ext_getElem hl (fun i h1 h2 => ?_)
  have := h i h1
  simpa [List.getD, h1, h2] using this

set_option maxRecDepth 20000 in
set_option maxHeartbeats 1600000 in
theorem equal10_any (a b : Option Addr) (la ca lb cb : Nat) (xs ys : List Int) (w : World) (hx : Byts w a la ca xs) (hy : Byts w b lb cb ys) :
    Calls Try.prog 47 #[.slice a la ca, .slice b lb cb] w fun e w' => e = .returned (.bool (decide (xs = ys))) ∧ Below w.heap.size w w' := by
  have hm := hx.hmax
  have hc := hx.hcap
  unfold maxLen at hm
  have HL : Hid (xs.length = la ∧ ys.length = lb) := ⟨hx.hlen, hy.hlen⟩
  by_cases hl : la = lb
  case neg =>
    have hne : ((la : Int) != (lb : Int)) = true := by simp; omega
    have HE : Hid (false = decide (xs = ys)) := (decide_eq_false (fun e => hl (by rw [← HL.out.1, ← HL.out.2, e]))).symm
    clear hx hy HL hl
    go_enter Try.func47, Try.ntmps47
    go_wp2
    go_ret
    exact ⟨ret_bool HE.out, Below.refl _ _⟩
  subst hl
  have H : Hid (Byts w a la ca xs ∧ Byts w b la cb ys) := ⟨hx, hy⟩
  clear hx hy
  obtain ⟨D, hD⟩ : ∃ D, D = decide (xs = ys) := ⟨_, rfl⟩
  have HD : Hid (D = decide (xs = ys)) := hD
  rw [← hD]
  clear hD
  go_enter Try.func47, Try.ntmps47
  go_wp2
  go_loopw [13] (fun v13 wr => ∃ k : Nat, k ≤ la ∧ v13 = .int .i64 k ∧ Hid (∀ j, j < k → xs.getD j 0 = ys.getD j 0) ∧ Below w.heap.size w wr) (fun v13 _ => la - (intOf v13).toNat)
  case atStart => exact ⟨0, by omega, rfl, fun j hj => by omega, Below.refl _ _⟩
  case round =>
    obtain ⟨k, hk, rfl, HE, hb⟩ := hrel
    by_cases hlt : k < la
    · have hlti : (k : Int) < (la : Int) := by omega
      obtain ⟨b1, o1, rfl, c1⟩ := (H.out.1.below hb).cells (by omega)
      obtain ⟨b2, o2, rfl, c2⟩ := (H.out.2.below hb).cells (by omega)
      replace c1 := c1 k hlt
      replace c2 := c2 k hlt
      obtain ⟨x, hx⟩ : ∃ x, x = xs.getD k 0 := ⟨_, rfl⟩
      obtain ⟨y, hy⟩ : ∃ y, y = ys.getD k 0 := ⟨_, rfl⟩
      rw [← hx] at c1
      rw [← hy] at c2
      have HX : Hid (x = xs.getD k 0 ∧ y = ys.getD k 0) := ⟨hx, hy⟩
      clear hx hy
      by_cases hxy : x = y
      · have hq : (x != y) = false := by simp [hxy]
        have HN : Hid (∀ j, j < k + 1 → xs.getD j 0 = ys.getD j 0) := fun j hj => by
          by_cases e : j = k
          · subst e
            rw [← HX.out.1, ← HX.out.2]; exact hxy
          · exact HE.out j (by omega)
        subst hxy
        clear HX HE
        go_wp2
        go_quiet (fail)
        go_wp2
        go_roundw
        case rel => exact ⟨k + 1, by omega, by go_num, HN, below_drewN hb _⟩
        case measure => simp [intOf]; omega
      · have hq : (x != y) = true := by simp [hxy]
        have hq2 : (x == y) = false := by simp [hxy]
        have HF : Hid (false = D) := by
          show _ = _
          rw [HD.out]
          exact (decide_eq_false (fun e => hxy (by rw [HX.out.1, HX.out.2, e]))).symm
        clear HX HE HD hxy
        go_wp2
        go_quiet (fail)
        go_wp2
        go_ret
        exact ⟨ret_bool HF.out, below_drewN hb _⟩
    · obtain rfl : k = la := by omega
      have HF : Hid (true = D) := by
        show _ = _
        rw [HD.out]
        exact (decide_eq_true (eq_all10 (by rw [HL.out.1, HL.out.2]) (fun j hj => HE.out j (by rw [← HL.out.1]; exact hj)))).symm
      clear HE HD
      go_wp2
      go_ret
      exact ⟨ret_bool HF.out, hb⟩

set_option maxRecDepth 20000 in
set_option maxHeartbeats 800000 in
theorem grow10_any (n : Nat) (w : World) (h0 : 0 < n) (hn : n ≤ 140737488355328) :
    Calls Try.prog 66 #[.slice none 0 0, .int .i64 n] w fun e w' => ∃ v, e = .returned v ∧ BOwn w' w.heap.size v [] ∧ Below w.heap.size w w' := by
  obtain ⟨i0, hi, hz0, hz1, hz2⟩ := info_parts Try.infoB
  have hrun := fun ty => Lib.run_append_nil_zeros (P := Try.prog) w 31 3 ty 5 i0 (.int .u8 0) .i64 .i64 Try.underlying31 Try.underlying3 hi hz0 n h0 (by omega) (by omega) (by rw [hz2]; omega)
  have hG := grownCap_ge w n 0 5
  have hM := grownCap_le_maxLen w n 0 5 (by unfold maxLen; omega)
  obtain ⟨G, hGe⟩ : ∃ G, G = grownCap w n 0 5 := ⟨_, rfl⟩
  rw [← hGe] at hG hM
  have hrun2 : ∀ ty, ∃ cur : Array Value, cur.size = G ∧ (Builtin.append_ #[31, 3] ty #[.slice none 0 0, .int .i64 n]).run Try.prog w = .ok (.slice (some ⟨w.heap.size, 0, none⟩) n G) (w.drew.alloc (.cells cur 5)) := fun ty => by
    refine ⟨_, ?_, by rw [hGe]; exact hrun ty⟩
    rw [Array.size_append, size_zeroCells, size_zeroCells]
    simp [Value.cells]
    omega
  clear hrun hGe
  unfold maxLen at hM
  have h0i : (0 : Int) < (n : Int) := by omega
  go_enter Try.func66, Try.ntmps66
  go_wp2_with (at_builtin; obtain ⟨cur, hcs, hr⟩ := hrun2 _; refine Lib.wpList_append_run _ rfl _ _ _ _ rfl _ _ rfl rfl _ _ hr ?_)
  have HO : Hid (BOwn (w.drew.alloc (.cells cur 5)) w.heap.size (.slice (some ⟨w.heap.size, 0, none⟩) 0 G) []) := World.ownsRow_made w.drew cur G (Nat.le_refl _) (by unfold maxLen; omega) (by omega)
  have hB := (below_drewN (Below.refl w.heap.size w) 1).alloc (Nat.le_refl _) (.cells cur 5)
  clear hrun2 hr
  go_ret
  exact ⟨_, rfl, HO.out, hB⟩

/-- Rows of bytes that lie in a row, and what they are put together. -/
def Parts10 (w : World) (g : Nat) (ps : List (Option Addr × Nat × Nat × List Int)) : Prop := ∀ i p, ps[i]? = some p → w.cell? ⟨g, i, none⟩ = some (.slice p.1 p.2.1 p.2.2.1) ∧ Byts w p.1 p.2.1 p.2.2.1 p.2.2.2 ∧ (p.1 = none → p.2.2.1 = 0)
def catL (ps : List (Option Addr × Nat × Nat × List Int)) : List Int := (ps.map (·.2.2.2)).flatten
theorem Parts10.below {w w' : World} {g : Nat} {ps : List (Option Addr × Nat × Nat × List Int)} (h : Parts10 w g ps) (hb : Below w.heap.size w w') : Parts10 w' g ps := fun i p hp => ⟨bkeep hb (h i p hp).1 rfl, (h i p hp).2.1.below hb, (h i p hp).2.2⟩
theorem catL_snoc {ps : List (Option Addr × Nat × Nat × List Int)} {i : Nat} {p : Option Addr × Nat × Nat × List Int} (h : ps[i]? = some p) : catL (ps.take (i + 1)) = catL (ps.take i) ++ p.2.2.2 := by
  unfold catL
  rw [List.take_add_one, h]
  simp
theorem catL_le (ps : List (Option Addr × Nat × Nat × List Int)) (i : Nat) : (catL (ps.take i)).length ≤ (catL ps).length := by
  have e : catL ps = catL (ps.take i) ++ catL (ps.drop i) := by
    unfold catL
    rw [← List.flatten_append, ← List.map_append, List.take_append_drop]
  rw [e, List.length_append]
  omega

set_option maxRecDepth 20000 in
set_option maxHeartbeats 1600000 in
theorem concat10_any (g c : Nat) (ps : List (Option Addr × Nat × Nat × List Int)) (n : Nat) (w : World) (hn : ps.length = n) (hn0 : n ≤ c) (hn1 : c ≤ 1000) (h : Parts10 w g ps) (h0 : 0 < (catL ps).length) (hlen : (catL ps).length ≤ 140737488355328) :
    Calls Try.prog 56 #[.slice (some ⟨g, 0, none⟩) n c] w fun e w' => ∃ v, e = .returned v ∧ BOwn w' w.heap.size v (catL ps) ∧ Below w.heap.size w w' := by
  have H : Hid (Parts10 w g ps) := h
  have HN : Hid (ps.length = n) := hn
  obtain ⟨T, hT⟩ : ∃ T, T = (catL ps).length := ⟨_, rfl⟩
  rw [← hT] at h0 hlen
  have HT : Hid (T = (catL ps).length) := hT
  clear h hn hT
  go_enter Try.func56, Try.ntmps56
  go_wp2
  go_loopw [3, 11] (fun v3 v11 wr => ∃ s i : Nat, v3 = .int .i64 s ∧ v11 = .int .i64 i ∧ i ≤ n ∧ s ≤ 140737488355328 ∧ Hid (s = (catL (ps.take i)).length) ∧ w = wr) (fun _ v11 _ => n - (intOf v11).toNat)
  case atStart => exact ⟨0, 0, rfl, rfl, by omega, by omega, by show _ = _; simp [catL], rfl⟩
  case round =>
    obtain ⟨s, i, rfl, rfl, hi, hs, HS, rfl⟩ := hrel
    by_cases hlt : i < n
    · have hlti : (i : Int) < (n : Int) := by omega
      obtain ⟨⟨pa, pl, pc, zs⟩, hp⟩ : ∃ p, ps[i]? = some p := ⟨_, List.getElem?_eq_getElem (by rw [HN.out]; exact hlt)⟩
      obtain ⟨k1, k2, -⟩ := H.out i _ hp
      simp only at k1 k2
      have e := catL_snoc hp
      have hle := catL_le ps (i + 1)
      rw [e, List.length_append, ← HS.out, k2.hlen, ← HT.out] at hle
      have HS2 : Hid (s + pl = (catL (ps.take (i + 1))).length) := by
        show _ = _
        rw [e, List.length_append, ← HS.out, k2.hlen]
      have hnn : decide ((s : Int) + (pl : Int) < 0) = false := decide_eq_false (by omega)
      clear HS hp k2 e
      go_wp2
      go_roundw
      case rel => exact ⟨s + pl, i + 1, by go_num, by go_num, by omega, by omega, HS2, by first | rfl | trivial⟩
      case measure => simp [intOf]; omega
    · obtain rfl : n = i := by omega
      obtain rfl : T = s := by rw [HS.out, HT.out, List.take_of_length_le (by rw [HN.out]; exact Nat.le_refl _)]
      clear HS
      go_wp2_with fail
      refine (grow10_any T _ h0 hlen).mono ?_
      rintro e w1 ⟨v, rfl, hown, hb1⟩
      go_wp2
      go_loopw [6, 27] (fun v6 v27 wr => ∃ i : Nat, v27 = .int .i64 i ∧ i ≤ n ∧ BOwn wr w.heap.size v6 (catL (ps.take i)) ∧ Below w.heap.size w wr) (fun _ v27 _ => n - (intOf v27).toNat)
      case atStart => exact ⟨0, rfl, by omega, by simpa [catL] using hown, hb1⟩
      case round =>
        obtain ⟨i, rfl, hi, hO, hb⟩ := hrel
        clear hown hb1
        by_cases hlt : i < n
        · have hlti : (i : Int) < (n : Int) := by omega
          obtain ⟨⟨pa, pl, pc, zs⟩, hp⟩ : ∃ p, ps[i]? = some p := ⟨_, List.getElem?_eq_getElem (by rw [HN.out]; exact hlt)⟩
          obtain ⟨k1, k2, k3⟩ := (H.out.below hb) i _ hp
          simp only at k1 k2 k3
          have e := catL_snoc hp
          have hle := catL_le ps (i + 1)
          rw [e, List.length_append, k2.hlen, ← HT.out] at hle
          have HE : Hid (catL (ps.take (i + 1)) = catL (ps.take i) ++ zs) := e
          have hsz := hb.size
          clear hp e
          go_wp2_with (at_builtin; refine wpList_appBW _ rfl _ _ 31 rfl Try.underlying31 w.heap.size _ _ rfl hO pa pl pc zs rfl k2 k3 ?c1 w ?c2 hb ?_)
          case c1 => omega
          case c2 => exact hsz
          rintro v' w2 hO2 hb2 -
          rw [← HE.out] at hO2
          clear hO hb k1 k2 k3
          go_wp2
          go_roundw
          case rel => exact ⟨i + 1, by go_num, by omega, hO2, hb2⟩
          case measure => simp [intOf]; omega
        · obtain rfl : n = i := by omega
          rw [List.take_of_length_le (by rw [HN.out]; exact Nat.le_refl _)] at hO
          go_wp2
          go_ret
          exact ⟨_, rfl, hO, hb⟩
end Go.Proofs.Ytjokbikelklaiaa

/-
  Contracts of the program's step, eightSteps, Sum and sumBytes (frame).
-/
import Derived.Test.YtpoipobmkfphcaaP10LawsO
import Derived.Deep.WholeRow
namespace Go.Proofs.Ytpoipobmkfphcaa
open Go.RowKit

set_option maxHeartbeats 800000 in
theorem f10step_any (q : Nat) (w : World) (hq : q < 4294967296) : Calls Try.prog 32 #[.int .u32 q] w fun e w' => e = .returned (.int .u32 ((stepC q : Nat) : Int)) ∧ w = w' := by
  by_cases ho : q % 2 = 1
  · have hoi : (q : Int) % 2 = 1 := by omega
    have HX : Hid (bits .xor .u32 ((q : Int) / 2) 3988292384 = ((stepC q : Nat) : Int)) := bits_step hq ho
    clear ho
    go_enter Try.func32, Try.ntmps32
    go_wp2
    go_ret
    exact ⟨ret_int HX.out, rfl⟩
  · have hoi : ((q : Int) % 2 == 1) = false := by simp; omega
    have HX : Hid ((q : Int) / 2 = ((stepC q : Nat) : Int)) := step_even ho
    clear ho
    go_enter Try.func32, Try.ntmps32
    go_wp2
    go_ret
    exact ⟨ret_int HX.out, rfl⟩

/-- A table of 256 numbers in memory. -/
def Tab10 (w : World) (g : Nat) (cur : Array Value) : Prop := w.heap[g]? = some (.cells cur 37 (0, 0)) ∧ cur.size = 256 ∧ ∀ j, j < 256 → ∃ x : Int, cur[j]? = some (.int .u32 x)
theorem Tab10.lt {w : World} {g : Nat} {cur : Array Value} (h : Tab10 w g cur) : g < w.heap.size := (Array.getElem?_eq_some_iff.1 h.1).1
theorem Tab10.cell {w : World} {g : Nat} {cur : Array Value} (h : Tab10 w g cur) (j : Nat) : w.cell? ⟨g, j, none⟩ = cur[j]? := cell_of_row _ _ _ _ _ _ h.1
theorem Tab10.frozen {w : World} {g : Nat} {cur : Array Value} (h : Tab10 w g cur) (j : Nat) : w.frozen? ⟨g, j, none⟩ = false := frozen_of_row _ _ _ _ _ h.1
theorem Tab10.one {w : World} {g : Nat} {cur : Array Value} (h : Tab10 w g cur) : cur.all (·.oneCell') = true := by
  rw [Array.all_eq_true_iff_forall_mem]
  intro x hx
  obtain ⟨j, hj, rfl⟩ := Array.getElem_of_mem hx
  obtain ⟨y, hy⟩ := h.2.2 j (by rw [← h.2.1]; exact hj)
  rw [Array.getElem?_eq_getElem hj] at hy
  simp only [Option.some.injEq] at hy
  rw [hy]; rfl
theorem Tab10.below {w w' : World} {g : Nat} {cur : Array Value} (h : Tab10 w g cur) (hb : Below w.heap.size w w') : Tab10 w' g cur := ⟨(hb.block g h.lt).trans h.1, h.2⟩
theorem Tab10.set {w : World} {g : Nat} {cur : Array Value} (h : Tab10 w g cur) (i : Nat) (x : Int) : Tab10 (w.setCell ⟨g, i, none⟩ (.int .u32 x)) g (cur.setIfInBounds i (.int .u32 x)) := by
  refine ⟨heap_setCell_same w g i _ _ _ h.1, by rw [Array.size_setIfInBounds]; exact h.2.1, fun j hj => ?_⟩
  by_cases e : i = j
  · subst e
    exact ⟨x, Array.getElem?_setIfInBounds_self_of_lt (by rw [h.2.1]; exact hj)⟩
  · obtain ⟨y, hy⟩ := h.2.2 j hj
    exact ⟨y, by rw [Array.getElem?_setIfInBounds_ne e]; exact hy⟩
theorem Tab10.other {w : World} {g k : Nat} {cur : Array Value} (h : Tab10 w g cur) (hk : g ≠ k) (i : Nat) (v : Value) : Tab10 (w.setCell ⟨k, i, none⟩ v) g cur := ⟨(heap_setCell_other w ⟨k, i, none⟩ g v hk).trans h.1, h.2⟩
def zeros10 : Array Value := Array.replicate 256 (.int .u32 0)
theorem Tab10.new (w : World) : Tab10 (w.alloc (.cells zeros10 37)) w.heap.size zeros10 :=
  ⟨heap_alloc_new _ _, by unfold zeros10; simp, fun j hj => ⟨0, by unfold zeros10; simp [hj]⟩⟩
theorem Try.info10 : (Try.prog.info? 37).map (fun i => (i.zero, i.size)) = some (some (.agg zeros10), 256) := by kernel_rfl

set_option maxRecDepth 20000 in
set_option maxHeartbeats 1600000 in
theorem f10table_any (w : World) : Calls Try.prog 17 #[] w fun e w' => ∃ cur : Array Value, e = .returned (.agg cur) ∧ cur.size = 256 ∧ (∀ j, j < 256 → cur[j]? = some (.int .u32 ((stepsC 8 j : Nat) : Int))) ∧ Below w.heap.size w w' := by
  obtain ⟨zv, zs⟩ := zero_of_info Try.info10
  have N1 := Tab10.new w
  have N2 := Tab10.new (w.alloc (.cells zeros10 37))
  have B1 := balloc w (.cells zeros10 37)
  have B2 := balloc (w.alloc (.cells zeros10 37)) (.cells zeros10 37)
  replace N1 := N1.below B2
  rw [World.size_alloc] at N2
  have B12 := bthen B1 B2
  generalize zeros10 = Z at *
  clear B1 B2
  go_enter Try.func17, Try.ntmps17
  go_wp2
  go_loopw [4] (fun v4 wr => ∃ i : Nat, i ≤ 256 ∧ v4 = .int .u32 i ∧ ∃ cur, Tab10 wr (w.heap.size + 1) cur ∧ (∃ c0, Tab10 wr w.heap.size c0) ∧ Hid (∀ j, j < i → cur[j]? = some (.int .u32 ((stepsC 8 j : Nat) : Int))) ∧ Below w.heap.size w wr) (fun v4 _ => 256 - (intOf v4).toNat)
  case atStart => exact ⟨0, by omega, rfl, Z, N2, ⟨Z, N1⟩, fun j hj => by omega, B12⟩
  case round =>
    obtain ⟨i, hi, rfl, cur, hA, ⟨c0, hC⟩, HS, hbr⟩ := hrel
    clear N1 N2 B12
    have hlt0 := hA.lt
    by_cases hlt : i < 256
    · have hlti : (i : Int) < 256 := by omega
      have HA : Hid (Tab10 wr (w.heap.size + 1) cur ∧ Tab10 wr w.heap.size c0) := ⟨hA, hC⟩
      clear hA hC
      go_wp2
      go_loopw [3, 8] (fun v3 v8 wq => ∃ q k : Nat, v3 = .int .u32 q ∧ v8 = .int .i64 k ∧ k ≤ 8 ∧ Hid (q < 4294967296 ∧ stepsC (8 - k) q = stepsC 8 i) ∧ wr = wq) (fun _ v8 _ => 8 - (intOf v8).toNat)
      case atStart => exact ⟨i, 0, rfl, rfl, by omega, ⟨by omega, rfl⟩, rfl⟩
      case round =>
        obtain ⟨q, k, rfl, rfl, hk, HQ, rfl⟩ := hrel
        by_cases hk8 : k < 8
        · have hk8i : (k : Int) < 8 := by omega
          have HN : Hid (stepC q < 4294967296 ∧ stepsC (8 - (k + 1)) (stepC q) = stepsC 8 i) := ⟨stepC_lt HQ.out.1, by rw [← steps_on hk8]; exact HQ.out.2⟩
          go_wp2_with fail
          refine (f10step_any q _ HQ.out.1).mono ?_
          rintro e w2 ⟨rfl, rfl⟩
          generalize stepC q = q' at *
          clear HQ
          go_wp2
          go_roundw
          case rel => exact ⟨q', k + 1, rfl, by go_num, by omega, HN, by first | rfl | trivial⟩
          case measure => simp [intOf]; omega
        · obtain rfl : k = 8 := by omega
          have hq : stepsC 8 i = q := by
            have := HQ.out.2
            rw [show 8 - 8 = 0 by rfl] at this
            exact this.symm
          obtain ⟨x, hold⟩ := HA.out.1.2.2 i hlt
          have hc2 : wr.cell? ⟨w.heap.size + 1, i, none⟩ = some (.int .u32 x) := by rw [HA.out.1.cell]; exact hold
          have hf2 : wr.frozen? ⟨w.heap.size + 1, i, none⟩ = false := HA.out.1.frozen _
          have HP : Hid (Tab10 (wr.setCell ⟨w.heap.size + 1, i, none⟩ (.int .u32 q)) (w.heap.size + 1) (cur.setIfInBounds i (.int .u32 q)) ∧ Tab10 (wr.setCell ⟨w.heap.size + 1, i, none⟩ (.int .u32 q)) w.heap.size c0 ∧ (∀ j, j < i + 1 → (cur.setIfInBounds i (.int .u32 q))[j]? = some (.int .u32 ((stepsC 8 j : Nat) : Int))) ∧ Below w.heap.size w (wr.setCell ⟨w.heap.size + 1, i, none⟩ (.int .u32 q))) := by
            refine ⟨HA.out.1.set i q, HA.out.2.other (by omega) _ _, fun j hj => ?_, hbr.setCell (by simp) _⟩
            by_cases e : i = j
            · subst e
              rw [hq]
              exact Array.getElem?_setIfInBounds_self_of_lt (by rw [HA.out.1.2.1]; exact hlt)
            · rw [Array.getElem?_setIfInBounds_ne e]
              exact HS.out j (by omega)
          clear HQ hq hold HA HS hbr
          go_wp2
          go_roundw
          case rel => exact ⟨i + 1, by omega, by go_num, _, HP.out.1, ⟨c0, HP.out.2.1⟩, HP.out.2.2.1, HP.out.2.2.2⟩
          case measure => simp [intOf]; omega
    · obtain rfl : i = 256 := by omega
      have HX : Hid (cur.size = 256 ∧ (∀ j, j < 256 → cur[j]? = some (.int .u32 ((stepsC 8 j : Nat) : Int))) ∧ Below w.heap.size w (wr.setRow w.heap.size cur)) := ⟨hA.2.1, HS.out, below_setRow hbr (Nat.le_refl _) _⟩
      have HI : (Try.prog.info? 37).map (·.size) = some cur.size := by rw [hA.2.1]; exact zs
      have HG := setRow_heap wr w.heap.size c0 cur 37 (0, 0) hC.1
      clear zs
      go_wp2_with (first
        | refine wpList_load_row rfl 37 _ rfl (w.heap.size + 1) rfl 37 cur (0, 0) _ hA.1 Try.underlying37 rfl HI ?_
        | refine wpList_store_row rfl 37 _ _ rfl w.heap.size cur rfl rfl 37 c0 hC.1 HI (by rw [hC.2.1, hA.2.1]) hA.one ?_)
      refine bodyPost_ret (results_cell_row rfl _ _ w.heap.size 37 cur (0, 0) _ rfl HG Try.underlying37 rfl HI) rfl ?_
      exact ⟨cur, rfl, HX.out.1, HX.out.2.1, HX.out.2.2⟩

theorem bits_xor8 (a b : Nat) (ha : a < 256) (hb : b < 256) : bits .xor .u8 (a : Int) (b : Int) = ((a ^^^ b : Nat) : Int) := by
  have h : a ^^^ b < 256 := Nat.xor_lt_two_pow (n := 8) ha hb
  show IntKind.u8.wrap (((BitVec.ofInt 8 (a : Int) ^^^ BitVec.ofInt 8 (b : Int)).toNat : Nat) : Int) = _
  have e1 : (BitVec.ofInt 8 (a : Int)).toNat = a := by
    rw [BitVec.toNat_ofInt]
    omega
  have e2 : (BitVec.ofInt 8 (b : Int)).toNat = b := by
    rw [BitVec.toNat_ofInt]
    omega
  rw [BitVec.toNat_xor, e1, e2]
  simp only [IntKind.wrap, IntKind.signed, IntKind.bits]
  simp
  omega
/-- A byte's place in the table, and what the table makes of it. -/
theorem byte_at {r b : Nat} (hb : b < 256) : (r % 256 ^^^ b) = (r ^^^ b) % 256 := by
  have := Nat.xor_mod_two_pow (a := r) (b := b) (n := 8)
  rw [show (2 : Nat) ^ 8 = 256 by rfl, Nat.mod_eq_of_lt hb] at this
  exact this.symm
theorem byte_tab {r b : Nat} (hr : r < 4294967296) (hb : b < 256) : bits .xor .u32 ((r : Int) / 256) ((stepsC 8 (r % 256 ^^^ b) : Nat) : Int) = ((byteC r b : Nat) : Int) := by
  have h := bits_xor32 (r / 256) (stepsC 8 (r % 256 ^^^ b)) (by omega) (stepsC_lt 8 (by rw [byte_at hb]; omega))
  rw [show ((r : Int) / 256) = ((r / 256 : Nat) : Int) by omega, h, byteC_table hb, byte_at hb, Nat.xor_comm]

set_option maxRecDepth 20000 in
set_option maxHeartbeats 1600000 in
theorem f10sum_any (a : Option Addr) (la ca : Nat) (bs : List Int) (w : World) (h : Byts w a la ca bs) :
    Calls Try.prog 9 #[.slice a la ca] w fun e w' => e = .returned (.int .u32 (sumC bs : Int)) ∧ Below w.heap.size w w' := by
  obtain ⟨zv, zs⟩ := zero_of_info Try.info10
  have hl := h.hlen
  have hc := h.hcap
  have hm := h.hmax
  unfold maxLen at hm
  obtain ⟨R, hR⟩ : ∃ R, R = runC 4294967295 bs := ⟨_, rfl⟩
  have HR : Hid (R = runC 4294967295 bs) := hR
  have HS : Hid (sumC bs = R ^^^ 4294967295) := by show _ = _; rw [HR.out]; rfl
  have HL : Hid (bs.length = la) := hl
  obtain ⟨s, hs⟩ : ∃ s, s = sumC bs := ⟨_, rfl⟩
  rw [← hs] at HS ⊢
  clear hR hl hs
  go_enter Try.func9, Try.ntmps9
  go_wp2_with fail
  refine (f10table_any w).mono ?_
  rintro e w1 ⟨cur, rfl, hsz, hT, hb1⟩
  have hnew := Tab10.new w1
  have hB := bthen hb1 (balloc w1 (.cells zeros10 37))
  have hB3 := below_setRow hB (g := w1.heap.size) hb1.size cur
  have hcells : ∀ j, ((w1.alloc (.cells zeros10 37)).setRow w1.heap.size cur).cell? ⟨w1.heap.size, j, none⟩ = cur[j]? := fun j => cell_setRow_same _ _ _ _ _ _ _ hnew.1
  have HI : (Try.prog.info? 37).map (·.size) = some cur.size := by rw [hsz]; exact zs
  have hone : cur.all (·.oneCell') = true := Tab10.one (w := (w1.alloc (.cells cur 37))) (g := w1.heap.size) ⟨heap_alloc_new _ _, hsz, fun j hj => ⟨_, hT j hj⟩⟩
  have HT : Hid (∀ j, j < 256 → ((w1.alloc (.cells zeros10 37)).setRow w1.heap.size cur).cell? ⟨w1.heap.size, j, none⟩ = some (.int .u32 ((stepsC 8 j : Nat) : Int))) := fun j hj => (hcells j).trans (hT j hj)
  clear hcells hT hB hb1 zs
  have hz : zeros10.size = 256 := by unfold zeros10; simp
  generalize zeros10 = Z at *
  go_wp2_with (refine wpList_store_row rfl 37 _ _ rfl w1.heap.size cur rfl rfl 37 Z hnew.1 HI (by rw [hsz, hz]) hone ?_)
  obtain ⟨W, hW⟩ : ∃ W, W = (w1.alloc (.cells Z 37)).setRow w1.heap.size cur := ⟨_, rfl⟩
  have H : Hid (Byts W a la ca bs) := by show Byts _ _ _ _ _; rw [hW]; exact h.below hB3
  rw [← hW] at hB3 HT
  rw [← hW]
  clear hW hnew HI hone hz h zv hsz
  generalize w1.heap.size = g at *
  go_loopw [4, 10] (fun v4 v10 wr => ∃ r i : Nat, v4 = .int .u32 r ∧ v10 = .int .i64 i ∧ i ≤ la ∧ Hid (r < 4294967296 ∧ runC r (bs.drop i) = R) ∧ W = wr) (fun _ v10 _ => la - (intOf v10).toNat)
  case atStart => exact ⟨4294967295, 0, rfl, rfl, Nat.zero_le _, ⟨by decide, by rw [HR.out]; rfl⟩, rfl⟩
  case round =>
    obtain ⟨r, i, rfl, rfl, hi, HI, rfl⟩ := hrel
    by_cases hlt : i < la
    · have hlti : (i : Int) < (la : Int) := by omega
      obtain ⟨b, off, rfl, hcell⟩ := H.out.cells (by omega)
      have c0 := hcell i hlt
      have hbb := H.out.word (bs.getD i 0) (by
        have : i < bs.length := by rw [HL.out]; exact hlt
        simp [List.getD, this])
      obtain ⟨x, hx⟩ : ∃ x : Nat, (x : Int) = bs.getD i 0 := ⟨(bs.getD i 0).toNat, by omega⟩
      rw [← hx] at c0 hbb
      have hx256 : x < 256 := by omega
      have hr := HI.out.1
      have HB : Hid (runC (byteC r x) (bs.drop (i + 1)) = R) := by
        have e := HI.out.2
        rw [drop_cons (by rw [HL.out]; exact hlt), ← hx] at e
        exact e
      have hix := bits_xor8 (r % 256) x (by omega) hx256
      rw [show ((r % 256 : Nat) : Int) = (r : Int) % 256 by omega] at hix
      have hk : r % 256 ^^^ x < 256 := Nat.xor_lt_two_pow (n := 8) (by omega) hx256
      have ht := HT.out (r % 256 ^^^ x) hk
      have HE : Hid (bits .xor .u32 ((r : Int) / 256) ((stepsC 8 (r % 256 ^^^ x) : Nat) : Int) = ((byteC r x : Nat) : Int)) := byte_tab hr hx256
      have HQ : Hid (byteC r x < 4294967296) := byteC_lt hr hx256
      obtain ⟨k, hke⟩ : ∃ k, k = r % 256 ^^^ x := ⟨_, rfl⟩
      rw [← hke] at hix hk ht HE
      obtain ⟨t, hte⟩ : ∃ t, t = stepsC 8 k := ⟨_, rfl⟩
      rw [← hte] at ht HE
      clear hcell HI hx hke hte hbb
      generalize byteC r x = q at *
      go_wp2
      go_roundw
      case rel => exact ⟨q, i + 1, by rw [HE.out], by go_num, by omega, ⟨HQ.out, HB.out⟩, by first | rfl | trivial⟩
      case measure => simp [intOf]; omega
    · obtain rfl : i = la := by omega
      have HE : Hid (bits .xor .u32 (r : Int) 4294967295 = (s : Int)) := by
        show _ = _
        have hr := HI.out.2
        rw [List.drop_eq_nil_of_le (by rw [HL.out]; exact Nat.le_refl _)] at hr
        rw [bits_all HI.out.1, HS.out, show r = R from hr]
      clear HI
      go_wp2
      go_ret
      exact ⟨ret_int HE.out, hB3⟩
theorem sum_ok10 : SumOk10 := fun a la ca bs w h _ _ => f10sum_any a la ca bs w h

set_option maxHeartbeats 800000 in
theorem f10four_any (a : Option Addr) (la ca : Nat) (bs : List Int) (w : World) (h : Byts w a la ca bs) :
    Calls Try.prog 23 #[.slice a la ca] w fun e w' => ∃ b, e = .returned (.slice (some b) 4 4) ∧ Byts w' (some b) 4 4 (be4 (sumC bs)) ∧ Below w.heap.size w w' := by
  have hs := sumC_lt h.digs
  go_enter Try.func23, Try.ntmps23
  go_wp2_with fail
  refine (f10sum_any a la ca bs w h).mono ?_
  rintro e w1 ⟨rfl, hb1⟩
  obtain ⟨T, hT⟩ : ∃ T, T = sumC bs := ⟨_, rfl⟩
  have HT : Hid (T = sumC bs) := hT
  rw [← hT] at hs
  rw [← hT]
  have hlit := Byts.lit4 w1 ((T : Int) / 16777216) ((T : Int) / 65536 % 256) ((T : Int) / 256 % 256) ((T : Int) % 256) (by omega) (by omega) (by omega) (by omega)
  have HB4 : Hid (Byts (w1.alloc (.cells #[.int .u8 ((T : Int) / 16777216), .int .u8 ((T : Int) / 65536 % 256), .int .u8 ((T : Int) / 256 % 256), .int .u8 ((T : Int) % 256)] 5)) (some ⟨w1.heap.size, 0, none⟩) 4 4 (be4 (sumC bs))) := by
    rw [← hT]
    have e : [(T : Int) / 16777216, (T : Int) / 65536 % 256, (T : Int) / 256 % 256, (T : Int) % 256] = be4 T := by
      unfold be4
      rw [show (T : Int) / 16777216 = ((T / 16777216 % 256 : Nat) : Int) by omega, show (T : Int) / 65536 % 256 = ((T / 65536 % 256 : Nat) : Int) by omega, show (T : Int) / 256 % 256 = ((T / 256 % 256 : Nat) : Int) by omega, show (T : Int) % 256 = ((T % 256 : Nat) : Int) by omega]
    rw [← e]
    exact hlit
  have hB := bthen hb1 (balloc w1 (.cells #[.int .u8 ((T : Int) / 16777216), .int .u8 ((T : Int) / 65536 % 256), .int .u8 ((T : Int) / 256 % 256), .int .u8 ((T : Int) % 256)] 5))
  clear hT h hlit
  go_wp2
  go_ret
  exact ⟨_, rfl, HB4.out, hB⟩
end Go.Proofs.Ytpoipobmkfphcaa

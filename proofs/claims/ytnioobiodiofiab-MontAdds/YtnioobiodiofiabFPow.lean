/-
  The contract of mont's firstPowers.
-/
import Derived.Test.YtnioobiodiofiabPow
import Derived.Laws.EntriesVeiled
namespace Go.Proofs.Ytnioobiodiofiab
open Go.RowKit

def arr16 (y : Value) : Array Value := #[y, .slice none 0 0, .slice none 0 0, .slice none 0 0, .slice none 0 0, .slice none 0 0, .slice none 0 0, .slice none 0 0, .slice none 0 0, .slice none 0 0, .slice none 0 0, .slice none 0 0, .slice none 0 0, .slice none 0 0, .slice none 0 0, .slice none 0 0]

theorem arr_new (w : World) (sa : Option Addr) (sn sc : Nat) : Arr (w.alloc (.cells (arr16 (.slice sa sn sc)) 78)) w.heap.size (arr16 (.slice sa sn sc)) := by
  refine ⟨heap_alloc_new _ _, rfl, fun j hj => ?_⟩
  have : j = 0 ∨ j = 1 ∨ j = 2 ∨ j = 3 ∨ j = 4 ∨ j = 5 ∨ j = 6 ∨ j = 7 ∨ j = 8 ∨ j = 9 ∨ j = 10 ∨ j = 11 ∨ j = 12 ∨ j = 13 ∨ j = 14 ∨ j = 15 := by omega
  rcases this with rfl | rfl | rfl | rfl | rfl | rfl | rfl | rfl | rfl | rfl | rfl | rfl | rfl | rfl | rfl | rfl <;> exact ⟨_, _, _, rfl⟩

set_option maxHeartbeats 1600000 in
theorem fpow_any (p : Option Addr) (zs : List Int) (f : Int) (qs : List Int) (a b : Option Addr) (la ca lb cb : Nat) (os xs : List Int) (v : Int) (w : World) (h : RingAt w p zs f qs) (hR : RingOk zs f qs) (ha : Nums w a la ca os) (hb : Nums w b lb cb xs) (ho : MF zs 1 os) (hx : MF zs v xs) :
    Calls Try.prog 59 #[.slice a la ca, .slice b lb cb, .func (.func 32) #[.pointer p] #[]] w fun e w' => ∃ cur : Array Value, e = .returned (.agg cur) ∧ cur.size = 16 ∧ (∀ j, j < 16 → ∃ y, cur[j]? = some y ∧ SV w' zs (v ^ j) y) ∧ Below w.heap.size w w' := by
  go_enter Try.func59, Try.ntmps59
  go_wp2
  go_loopw [11] (fun iv wr => ∃ i : Nat, i ≤ 15 ∧ iv = .int .i64 i ∧ ∃ cur, Arr wr (w.heap.size + 1) cur ∧ (∃ c0, Arr wr w.heap.size c0) ∧ (∀ j, j ≤ i → ∃ y, cur[j]? = some y ∧ SV wr zs (v ^ j) y) ∧ Below w.heap.size w wr) (fun iv _ => 15 - (intOf iv).toNat)
  case atStart =>
    have W1 := arr_new w none 0 0
    have W2 := arr_new (w.alloc (.cells (arr16 (.slice none 0 0)) 78)) a la ca
    have B1 := (Below.refl (w.alloc (.cells (arr16 (.slice none 0 0)) 78)).heap.size (w.alloc (.cells (arr16 (.slice none 0 0)) 78))).alloc (Nat.le_refl _) (.cells (arr16 (.slice a la ca)) 78)
    have W3 := W1.below B1 (by simp)
    have B2 := ((Below.refl w.heap.size w).alloc (Nat.le_refl _) (.cells (arr16 (.slice none 0 0)) 78)).alloc (by simp) (.cells (arr16 (.slice a la ca)) 78)
    rw [World.size_alloc] at W2
    refine ⟨0, by omega, rfl, arr16 (.slice a la ca), W2, ⟨_, W3⟩, fun j hj => ?_, B2⟩
    obtain rfl : j = 0 := by omega
    exact ⟨.slice a la ca, rfl, a, la, ca, os, rfl, ha.below B2, by rw [Int.pow_zero]; exact ho⟩
  case round =>
    obtain ⟨i, hi, rfl, cur, hA, ⟨c0, hC⟩, hS, hbr⟩ := hrel
    have hlt0 := hA.lt
    by_cases hlt : i < 15
    · have hlti : (i : Int) < 15 := by omega
      obtain ⟨y, hy, ya, yn, yc, ys, rfl, hyn, hym⟩ := hS i (Nat.le_refl _)
      have hc1 : wr.cell? ⟨w.heap.size + 1, i, none⟩ = some (.slice ya yn yc) := by rw [hA.cell]; exact hy
      have hRr := h.below hbr
      have hbx := hb.below hbr
      have HA : Hid (Arr wr (w.heap.size + 1) cur ∧ Arr wr w.heap.size c0 ∧ (∀ j, j ≤ i → ∃ y, cur[j]? = some y ∧ SV wr zs (v ^ j) y)) := ⟨hA, hC, hS⟩
      clear hA hC hS hy
      go_wp2_with fail
      refine (mpMF_any _ _ _ _ _ _ _ _ _ _ _ _ _ _ _ hRr hR hyn hbx hym hx).mono ?_
      rintro e w2 ⟨za, zn, zc, ls, rfl, hz, hzm, hb2⟩
      have hA2 : Arr w2 (w.heap.size + 1) cur := HA.out.1.below hb2 hlt0
      have hC2 : Arr w2 w.heap.size c0 := HA.out.2.1.below hb2 (by omega)
      obtain ⟨sa, sn, sc, hold⟩ := hA2.2.2 (i + 1) (by omega)
      have hc2 : w2.cell? ⟨w.heap.size + 1, i + 1, none⟩ = some (.slice sa sn sc) := by rw [hA2.cell]; exact hold
      have hf2 : w2.frozen? ⟨w.heap.size + 1, i + 1, none⟩ = false := hA2.frozen _
      have hB2 := hbr.trans (hb2.mono hbr.size)
      have HP : Hid (Arr (w2.setCell ⟨w.heap.size + 1, i + 1, none⟩ (.slice za zn zc)) (w.heap.size + 1) (cur.setIfInBounds (i + 1) (.slice za zn zc)) ∧ Arr (w2.setCell ⟨w.heap.size + 1, i + 1, none⟩ (.slice za zn zc)) w.heap.size c0 ∧
          (∀ j, j ≤ i + 1 → ∃ y, (cur.setIfInBounds (i + 1) (.slice za zn zc))[j]? = some y ∧ SV (w2.setCell ⟨w.heap.size + 1, i + 1, none⟩ (.slice za zn zc)) zs (v ^ j) y) ∧ Below w.heap.size w (w2.setCell ⟨w.heap.size + 1, i + 1, none⟩ (.slice za zn zc))) := by
        refine ⟨hA2.set _ _ _ _, hC2.other (by omega) _, fun j hj => ?_, hB2.setCell (by simp) _⟩
        by_cases e : i + 1 = j
        · subst e
          exact ⟨_, Array.getElem?_setIfInBounds_self_of_lt (by rw [hA2.2.1]; omega), (show SV w2 zs (v ^ (i + 1)) (.slice za zn zc) from ⟨za, zn, zc, ls, rfl, hz, by rw [Int.pow_succ]; exact hzm⟩).setCell hc2 _⟩
        · obtain ⟨y, hy, hsv⟩ := HA.out.2.2 j (by omega)
          exact ⟨y, by rw [Array.getElem?_setIfInBounds_ne e]; exact hy, (hsv.below hb2).setCell hc2 _⟩
      clear hA2 hC2 hold hb2 hB2 hz hzm HA hRr hbx hyn hym hc1 hbr
      go_wp2
      go_roundw
      case rel => exact ⟨i + 1, by omega, by go_num, _, HP.out.1, ⟨c0, HP.out.2.1⟩, HP.out.2.2.1, HP.out.2.2.2⟩
      case measure => simp [intOf]; omega
    · obtain rfl : i = 15 := by omega
      have HX : Hid (cur.size = 16 ∧ (∀ j, j < 16 → ∃ y, cur[j]? = some y ∧ SV (wr.setRow w.heap.size cur) zs (v ^ j) y) ∧ Below w.heap.size w (wr.setRow w.heap.size cur)) := by
        refine ⟨hA.2.1, fun j hj => ?_, below_setRow hbr (Nat.le_refl _) _⟩
        obtain ⟨y, hy, hsv⟩ := hS j (by omega)
        exact ⟨y, hy, hsv.setRow hC.1 hC.slices _⟩
      have HI : (Try.prog.info? 78).map (·.size) = some cur.size := by rw [hA.2.1]; exact Try.infoArr
      have HG := setRow_heap wr w.heap.size c0 cur 78 (0, 0) hC.1
      go_wp2_with (first
        | refine wpList_load_row rfl 78 _ rfl (w.heap.size + 1) rfl 78 cur (0, 0) _ hA.1 Try.underlying78 rfl HI ?_
        | refine wpList_store_row rfl 78 _ _ rfl w.heap.size cur rfl rfl 78 c0 hC.1 HI (by rw [hC.2.1, hA.2.1]) hA.one ?_)
      refine bodyPost_ret (results_cell_row rfl _ _ w.heap.size 78 cur (0, 0) _ rfl HG Try.underlying78 rfl HI) rfl ?_
      exact ⟨cur, rfl, HX.out.1, HX.out.2.1, HX.out.2.2⟩
end Go.Proofs.Ytnioobiodiofiab

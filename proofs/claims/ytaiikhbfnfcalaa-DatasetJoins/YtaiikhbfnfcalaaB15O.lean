/-
  Stage 15's laws: what they ask of the program's functions. Written by mk/p15laws.py.
  Stage 15's laws: awake.
-/
import Derived.Test.YtaiikhbfnfcalaaR15T
import Derived.Test.YtaiikhbfnfcalaaRef15E
import Derived.Test.YtaiikhbfnfcalaaW12B
namespace Go.Proofs.Ytaiikhbfnfcalaa
open Go.RowKit

def RgtOk15 : Prop := ∀ (v : TV) (t : Tab) (w : World), TabAt w v t → Calls Try.prog 10 #[.agg #[.slice v.p0 v.l0 v.c0, .slice v.p1 v.l1 v.c1, .slice v.p2 v.l2 v.c2]] w fun e w' => RgtT15 t w e w'
def AliOk15 : Prop := ∀ (a : Option Addr) (l c : Nat) (Ls : List (List Int)) (w : World), IRows w a l c Ls → Calls Try.prog 12 #[.slice a l c] w fun e w' => AlignT15 Ls w e w'
def TakOk15 : Prop := ∀ (v : TV) (t : Tab) (p : Option Addr) (l c : Nat) (xs : List Int) (w : World), TabAt w v t → Lsts w p l c xs → Calls Try.prog 15 #[.agg #[.slice v.p0 v.l0 v.c0, .slice v.p1 v.l1 v.c1, .slice v.p2 v.l2 v.c2], .slice p l c] w fun e w' => TakT15 t xs w e w'
def JoiOk15 : Prop := ∀ (a : Option Addr) (l c : Nat) (ts : List Tab) (w : World), TRows w a l c ts → Calls Try.prog 18 #[.slice a l c] w fun e w' => TabT15 (ResJoin15 ts) w e w'
def LefOk15 : Prop := ∀ (v : TV) (t : Tab) (col cut : Int) (w : World), (-9223372036854775808 ≤ col ∧ col < 9223372036854775808) → (-9223372036854775808 ≤ cut ∧ cut < 9223372036854775808) → TabAt w v t → Calls Try.prog 20 #[.agg #[.slice v.p0 v.l0 v.c0, .slice v.p1 v.l1 v.c1, .slice v.p2 v.l2 v.c2], .int .i64 col, .int .i64 cut] w fun e w' => LeftT15 t col cut w e w'

end Go.Proofs.Ytaiikhbfnfcalaa

namespace Go.Proofs.Ytaiikhbfnfcalaa
open Go.RowKit

theorem ids_awake : IdsAll [[3, 1, 2], [2, 3, 5]] := fun L hL => by
  have : L = [3, 1, 2] ∨ L = [2, 3, 5] := by simpa using hL
  rcases this with rfl | rfl
  · exact ⟨by decide, fun x hx => by simp at hx; omega, by decide⟩
  · exact ⟨by decide, fun x hx => by simp at hx; omega, by decide⟩
theorem align_awake : ResAlign [[3, 1, 2], [2, 3, 5]] 0 [2, 3] := .inr (.inr ⟨⟨by decide, by decide⟩, ids_awake, rfl, ⟨by simp, fun x => by simp; omega⟩⟩)
def AwakeT15 (w : World) (e : Ending) (w' : World) : Prop := e = .returned (.bool true) ∧ Below w.heap.size w w'
theorem lsts3 (w : World) (g : Nat) (x y z : Int) (h0 : w.cell? ⟨g, 0, none⟩ = some (.int .i64 x)) (h1 : w.cell? ⟨g, 1, none⟩ = some (.int .i64 y)) (h2 : w.cell? ⟨g, 2, none⟩ = some (.int .i64 z)) (hr : ∀ u, u ∈ [x, y, z] → -9223372036854775808 ≤ u ∧ u < 9223372036854775808) : Lsts w (some ⟨g, 0, none⟩) 3 3 [x, y, z] :=
  ⟨rfl, Nat.le_refl _, by decide, fun _ => ⟨g, 0, rfl, fun i hi => by
    match i, hi with
    | 0, _ => simpa using h0
    | 1, _ => simpa using h1
    | 2, _ => simpa using h2⟩, hr⟩
set_option maxRecDepth 20000 in
set_option maxHeartbeats 3200000 in
theorem awake15_any (OA : AliOk15) (w : World) : Calls Try.prog 9 #[] w fun e w' => AwakeT15 w e w' := by
  have hV1 := balloc w (.cells #[.int .i64 3, .int .i64 1, .int .i64 2] 3)
  have hV2 := balloc (w.alloc (.cells #[.int .i64 3, .int .i64 1, .int .i64 2] 3)) (.cells #[.int .i64 2, .int .i64 3, .int .i64 5] 3)
  have hV3 := balloc ((w.alloc (.cells #[.int .i64 3, .int .i64 1, .int .i64 2] 3)).alloc (.cells #[.int .i64 2, .int .i64 3, .int .i64 5] 3)) (.cells #[.slice (some ⟨w.heap.size, 0, none⟩) 3 3, .slice (some ⟨w.heap.size + 1, 0, none⟩) 3 3] 22)
  obtain ⟨V, hVe⟩ : ∃ V, V = ((w.alloc (.cells #[.int .i64 3, .int .i64 1, .int .i64 2] 3)).alloc (.cells #[.int .i64 2, .int .i64 3, .int .i64 5] 3)).alloc (.cells #[.slice (some ⟨w.heap.size, 0, none⟩) 3 3, .slice (some ⟨w.heap.size + 1, 0, none⟩) 3 3] 22) := ⟨_, rfl⟩
  have hV := bthen (bthen hV1 hV2) hV3
  have l1 : Lsts V (some ⟨w.heap.size, 0, none⟩) 3 3 [3, 1, 2] := lsts3 _ _ _ _ _ (by rw [hVe]; exact bkeep hV3 (bkeep hV2 (by simp) rfl) rfl) (by rw [hVe]; exact bkeep hV3 (bkeep hV2 (by simp) rfl) rfl) (by rw [hVe]; exact bkeep hV3 (bkeep hV2 (by simp) rfl) rfl) (fun u hu => by simp at hu; omega)
  have l2 : Lsts V (some ⟨w.heap.size + 1, 0, none⟩) 3 3 [2, 3, 5] := lsts3 _ _ _ _ _ (by rw [hVe]; exact bkeep hV3 (by simp) rfl) (by rw [hVe]; exact bkeep hV3 (by simp) rfl) (by rw [hVe]; exact bkeep hV3 (by simp) rfl) (fun u hu => by simp at hu; omega)
  have hR : V.heap[w.heap.size + 2]? = some (.cells #[.slice (some ⟨w.heap.size, 0, none⟩) 3 3, .slice (some ⟨w.heap.size + 1, 0, none⟩) 3 3] 22 (0, 0)) := by
    have := heap_alloc_new ((w.alloc (.cells #[.int .i64 3, .int .i64 1, .int .i64 2] 3)).alloc (.cells #[.int .i64 2, .int .i64 3, .int .i64 5] 3)) (.cells #[.slice (some ⟨w.heap.size, 0, none⟩) 3 3, .slice (some ⟨w.heap.size + 1, 0, none⟩) 3 3] 22)
    rw [hVe]
    simpa using this
  have c0 : V.cell? ⟨w.heap.size + 2, 0, none⟩ = some (.slice (some ⟨w.heap.size, 0, none⟩) 3 3) := by rw [cell_of_row _ _ _ _ _ _ hR]; rfl
  have c1 : V.cell? ⟨w.heap.size + 2, 1, none⟩ = some (.slice (some ⟨w.heap.size + 1, 0, none⟩) 3 3) := by rw [cell_of_row _ _ _ _ _ _ hR]; rfl
  have hI : IRows V (some ⟨w.heap.size + 2, 0, none⟩) 2 2 [[3, 1, 2], [2, 3, 5]] := ⟨rfl, Nat.le_refl _, by decide, fun _ => ⟨_, 0, rfl, fun i hi => by
    match i, hi with
    | 0, _ => exact ⟨_, _, _, by simpa using c0, l1⟩
    | 1, _ => exact ⟨_, _, _, by simpa using c1, l2⟩⟩⟩
  have HC := (show Hid _ from OA _ 2 2 _ V hI)
  rw [← hVe] at hV
  have HV : Hid (V = ((w.alloc (.cells #[.int .i64 3, .int .i64 1, .int .i64 2] 3)).alloc (.cells #[.int .i64 2, .int .i64 3, .int .i64 5] 3)).alloc (.cells #[.slice (some ⟨w.heap.size, 0, none⟩) 3 3, .slice (some ⟨w.heap.size + 1, 0, none⟩) 3 3] 22)) := hVe
  have HB : Hid (Below w.heap.size w V) := hV
  clear hV1 hV2 hV3 hVe hV l1 l2 c0 c1 hI hR
  go_enter Try.func9, Try.ntmps9
  go_wp2_with fail
  rw [← HV.out]
  refine Calls.mono HC.out ?_
  rintro e w1 ⟨a, l, c, xs, err, rfl, hL, -, hr, hb⟩
  obtain ⟨rfl, rfl⟩ := hr.unique align_awake
  have hl : l = 2 := hL.hlen.symm
  subst hl
  obtain ⟨b, off, rfl, hc⟩ := hL.cells (by decide)
  have d0 := hc 0 (by decide)
  have d1 := hc 1 (by decide)
  have m1 := hL.hcap
  have m2 := hL.hmax
  unfold maxLen at m2
  have e0 : ([2, 3] : List Int).getD 0 0 = 2 := rfl
  have e1 : ([2, 3] : List Int).getD 1 0 = 3 := rfl
  rw [e0, Nat.add_zero] at d0
  rw [e1] at d1
  have HT : Hid (Below w.heap.size w w1) := bthen HB.out hb
  clear HC HB HV hL hr hb hc
  dsimp only
  go_wp2
  go_ret
  exact ⟨rfl, HT.out⟩
end Go.Proofs.Ytaiikhbfnfcalaa

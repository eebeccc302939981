/-
  The program's session: the contract of isLate.
-/
import Derived.Test.YtbfjcfebbadkcaaX13E
import Derived.Deep.RegionWith
namespace Go.Proofs.Ytbfjcfebbadkcaa
open Go.RowKit Go.Maps

theorem sameKey_pkey {q k : Nat} (h : (pkey q).sameKey (pkey k) = true) : q = k := by
  by_cases e : q = k
  · exact e
  · rw [sameKey_ne (pkey_ne e)] at h
    cases h
/-- An entry that comes out of the map. -/
theorem waits_entry {ws : Nat → Option (Nat × List Int)} {D : DataW Value} (h5 : ∀ x : Int, has D (.int .i64 x) = true → ∃ k : Nat, x = (k : Int) ∧ ws k ≠ none) (h6 : ∀ k y, ws k = some y → has D (pkey k) = true ∧ ∀ z, D.atKey (pkey k) z = .held (wv y)) {x : Int} {v : Value} {kl : Lit} {y : DataW Value × List MemPlace} (hk : keyOf Try.prog 3 (.int .i64 x) = some kl) (hv : tok13 v = some y) (hat : ∀ z, D.atKey kl z = y.1) : ∃ (k : Nat) (z : Nat × List Int), x = (k : Int) ∧ kl = pkey k ∧ ws k = some z ∧ v = wv z := by
  obtain ⟨x', ex, rfl, _⟩ := Maps.keyOf_int_inv Try.underlying3 hk
  cases ex
  obtain ⟨k, rfl, hk2⟩ := h5 x (has_true_of_atKey hat)
  cases q : ws k with
  | none => exact absurd q hk2
  | some z =>
    refine ⟨k, z, rfl, rfl, q, ?_⟩
    have e1 := (h6 k z q).2 (.held v)
    have e2 := hat (.held v)
    unfold tok13 at hv
    cases hv
    exact DataW.held.inj (e2.symm.trans e1)
structure LateI (w : World) (m : Nat) (ws : Nat → Option (Nat × List Int)) (now pat : Nat) (D : DataW Value) (left : Lit → Bool) (cnt : Nat) (wr : World) : Prop where
  rng : wr.ranges Try.prog 3 tok13 m w.heap.size (size D) D left cnt
  below : Below w.heap.size w wr
  done : ∀ k y, ws k = some y → left (pkey k) = false → ¬ y.1 + pat < now
def LateT (ws : Nat → Option (Nat × List Int)) (now pat : Nat) (w : World) (e : Ending) (w' : World) : Prop := ∃ b, e = .returned (.bool b) ∧ (b = true ↔ ∃ p x, ws p = some x ∧ x.1 + pat < now) ∧ Below w.heap.size w w'
theorem below_of_grown13 {w wr w1 : World} (h : Below w.heap.size w wr) (k : wr.grownBy w1 (some w.heap.size)) : Below w.heap.size w w1 := h.trans ⟨k.os, k.tape, k.output, k.size, fun i hi => k.block i (Nat.lt_of_lt_of_le hi h.size) (fun e => by cases e; exact Nat.lt_irrefl _ hi)⟩
set_option maxRecDepth 100000 in
set_option maxHeartbeats 6400000 in
theorem p13late_any {w : World} {g m : Nat} {cs : Array Value} {ws : Nat → Option (Nat × List Int)} {now pat : Nat} (hg : w.heap[g]? = some (.cells cs 51 (0, 0))) (e2 : cs[2]? = some (.int .i64 (pat : Int))) (e3 : cs[3]? = some (.int .i64 (now : Int))) (e4 : cs[4]? = some (.map (some m))) (hw : WaitsM w m ws) (ht : ∀ p x, ws p = some x → x.1 ≤ now) (hn : now ≤ 1073741824) :
    Calls Try.prog 35 #[.pointer (some ⟨g, 0, none⟩)] w fun e w' => LateT ws now pat w e w' := by
  obtain ⟨D, ks, h1, -, -, -, h5, h6⟩ := hw
  have H5 : Hid (∀ x : Int, has D (.int .i64 x) = true → ∃ k : Nat, x = (k : Int) ∧ ws k ≠ none) := h5
  have H6 : Hid (∀ k y, ws k = some y → has D (pkey k) = true ∧ ∀ z, D.atKey (pkey k) z = .held (wv y)) := h6
  have HT : Hid (∀ p x, ws p = some x → x.1 ≤ now) := ht
  have HC : Hid (∀ wx : World, Below w.heap.size w wx → wx.cell? ⟨g, 2, none⟩ = some (.int .i64 (pat : Int)) ∧ wx.cell? ⟨g, 3, none⟩ = some (.int .i64 (now : Int))) := fun wx hb => by
    have e := (hb.block g (Array.getElem?_eq_some_iff.1 hg).1).trans hg
    exact ⟨by rw [cell_of_row _ _ _ _ _ _ e]; exact e2, by rw [cell_of_row _ _ _ _ _ _ e]; exact e3⟩
  have c4 : w.cell? ⟨g, 4, none⟩ = some (.map (some m)) := by rw [cell_of_row _ _ _ _ _ _ hg]; exact e4
  clear h5 h6 ht hg e2 e3 e4
  go_enter Try.func35, Try.ntmps35
  go_wp2_with (first
    | (at_range; refine wpList_range_own _ rfl _ 49 rfl 3 70 key13 Try.underlying49 tok13 m _ D rfl h1 ?_; intro w0 hrg0 hg0 hs0)
    | go_in)
  go_frame
  go_loopw [11] (fun _ wr => ∃ (left : Lit → Bool) (cnt : Nat), Hid (LateI w m ws now pat D left cnt wr)) (fun _ wr => wr.rangeLeft m w.heap.size)
  case atStart => exact ⟨_, _, ⟨hrg0, ⟨hg0.os, hg0.tape, hg0.output, hg0.size, fun i hi => hg0.block i hi (by simp)⟩, fun k y e q => by rw [(H6.out k y e).1] at q; cases q⟩⟩
  case round =>
    obtain ⟨left, cnt, HI⟩ := hrel
    have hrg := HI.out.rng
    go_wp2_with (first
      | (at_next; refine wpList_next_ranges _ rfl _ rfl 3 key13 tok13 (Value.int .i64) (fun v : Value => v) (fun key kl hk => by obtain ⟨x, rfl, _⟩ := Maps.keyOf_int_inv Try.underlying3 hk; exact ⟨x, rfl⟩) (fun v y hv => ⟨v, rfl⟩) m w.heap.size (size D) D left cnt rfl hrg ?_ ?_)
      | go_in)
    · intro _ hl0
      have HF : Hid (LateT ws now pat w (.returned (.bool false)) wr) := ⟨false, rfl, ⟨fun e => (by cases e), fun ⟨p, x, q1, q2⟩ => absurd q2 (HI.out.done p x q1 (hl0 _))⟩, HI.out.below⟩
      clear hrg hl0 HI h1 hrg0 hg0 hs0
      go_wp2
      go_ret
      exact HF.out
    · intro x v kl yd yp w1 cnt1 hkey hlk hv hat hrg1 hlt hg1 hs1 hen
      obtain ⟨k, z, rfl, rfl, hz, rfl⟩ := waits_entry H5.out H6.out hkey hv hat
      have HB1 : Hid (Below w.heap.size w w1) := below_of_grown13 HI.out.below hg1
      obtain ⟨C, hC⟩ : ∃ C, C = wcells (z.1 : Int) (kb z.2) := ⟨_, rfl⟩
      have hone := wcells_one (z.1 : Int) (kb z.2)
      have hsz : (wcells (z.1 : Int) (kb z.2)).size = 13 := rfl
      have hiw : (Try.prog.info? 70).map (·.size) = some (wcells (z.1 : Int) (kb z.2)).size := by rw [hsz]; exact info_wait
      have hsz' : (wcells 0 (fun _ => false)).size = (wcells (z.1 : Int) (kb z.2)).size := by rw [hsz]; rfl
      have hq0 : (awW w1 (wcells (z.1 : Int) (kb z.2))).heap[w1.heap.size]? = some (.cells (wcells (z.1 : Int) (kb z.2)) 70 (0, 0)) := heap_alloc_new _ _
      have d0 : (awW w1 (wcells (z.1 : Int) (kb z.2))).cell? ⟨w1.heap.size, 0, none⟩ = some (.int .i64 (z.1 : Int)) := by rw [cell_of_row _ _ _ _ _ _ hq0]; rfl
      have HBW : Hid (Below w.heap.size w (awW w1 (wcells (z.1 : Int) (kb z.2)))) := bthen HB1.out (balloc _ _)
      have hrgW : (awW w1 (wcells (z.1 : Int) (kb z.2))).ranges Try.prog 3 tok13 m w.heap.size (size D) D (fun q => left q && !q.sameKey (pkey k)) cnt1 := hrg1.kept (World.grownBy_alloc w1 _ none) (by simp) (by simp)
      unfold wv at hen
      rw [← hC] at hone hiw hsz' d0 HBW hrgW hen
      obtain ⟨W, hW⟩ : ∃ W, W = awW w1 C := ⟨_, rfl⟩
      rw [← hW] at d0 HBW hrgW
      have HW : Hid (W = awW w1 C) := hW
      obtain ⟨d2, d3⟩ := HC.out W HBW.out
      have htz := HT.out k z hz
      obtain ⟨tt, htt⟩ : ∃ tt, tt = z.1 := ⟨_, rfl⟩
      rw [← htt] at d0 htz
      obtain ⟨q, hq⟩ : ∃ q, q = now - tt := ⟨_, rfl⟩
      have HA : Hid (∀ wx : World, Below W.heap.size W wx → Calls Try.prog 39 #[.agg #[.int .i64 (tt : Int)], .int .i64 (now : Int)] wx fun e w' => e = .returned (.int .i64 (q : Int)) ∧ w'.cell? ⟨g, 2, none⟩ = some (.int .i64 (pat : Int)) ∧ Below W.heap.size W w') := fun wx hb => by
        refine (p13ago_any tt now wx htz hn).mono ?_
        rintro e w' ⟨rfl, hb'⟩
        rw [hq]
        exact ⟨rfl, (HC.out w' (bthen HBW.out (bthen hb hb'))).1, bthen hb hb'⟩
      have HR : Hid (∀ w' : World, Below W.heap.size W w' → ¬ pat < q → LateI w m ws now pat D (fun q => left q && !q.sameKey (pkey k)) cnt1 w') := fun w' hb hnl => by
        refine ⟨?_, bthen HBW.out hb, fun j y e hj => ?_⟩
        · exact hrgW.kept (row := none) ⟨hb.os, hb.tape, hb.output, hb.size, fun i hi _ => hb.block i hi⟩ (by simp) (by simp)
        · by_cases ej : j = k
          · subst ej
            rw [hz] at e
            cases e
            omega
          · refine HI.out.done j y e ?_
            rw [sameKey_ne (pkey_ne ej)] at hj
            simpa using hj
      have HY : Hid (∀ w' : World, Below W.heap.size W w' → pat < q → LateT ws now pat w (.returned (.bool true)) w') := fun w' hb hl => ⟨true, rfl, ⟨fun _ => ⟨k, z, hz, by omega⟩, fun _ => rfl⟩, bthen HBW.out hb⟩
      have HM : Hid (∀ w' : World, Below W.heap.size W w' → w'.rangeLeft m w.heap.size = cnt1) := fun w' hb => (hrgW.kept (row := none) (w' := w') ⟨hb.os, hb.tape, hb.output, hb.size, fun i hi _ => hb.block i hi⟩ (by simp) (by simp)).left_eq
      have HM0 : Hid (wr.rangeLeft m w.heap.size = cnt ∧ cnt1 < cnt) := ⟨hrg.left_eq, hlt⟩
      clear hkey hlk hv hat hrg1 hlt hg1 hs1 hrg hrgW hz HI hC hsz hW hq0 htt hq htz hrg0 hg0 hs0 h1 hn c4
      go_wp2_with (first
        | refine wpList_store_wait rfl _ _ rfl rfl w1 W _ C HW.out rfl rfl hiw hsz' hone ?_
        | go_in)
      by_cases hl : pat < q
      · have hld : decide (pat < q) = true := decide_eq_true hl
        have HY2 : Hid (∀ w' : World, Below W.heap.size W w' → LateT ws now pat w (.returned (.bool true)) w') := fun w' hb => HY.out w' hb hl
        clear HR HM HM0 HY hl hone hiw hsz' HW HBW hen HC HT H5 H6
        go_region_with (go_at_call 39; with_reducible refine Calls.mono (HA.out _ ?_) ?_; (focus (exact ⟨rfl, rfl, rfl, Nat.le_refl _, fun _ _ => rfl⟩)); rintro e w3 ⟨rfl, z2, hb3⟩)
        all_goals
          have HB3 : Hid (Below W.heap.size W w3) := hb3
          clear hb3 HA
          go_wp2
          go_ret
          exact HY2.out _ HB3.out
      · have hld : decide (pat < q) = false := decide_eq_false hl
        have HR2 : Hid (∀ w' : World, Below W.heap.size W w' → LateI w m ws now pat D (fun q => left q && !q.sameKey (pkey k)) cnt1 w' ∧ w'.rangeLeft m w.heap.size < wr.rangeLeft m w.heap.size) := fun w' hb => ⟨HR.out w' hb hl, by rw [HM.out w' hb, HM0.out.1]; exact HM0.out.2⟩
        clear HR HM HM0 HY hl hone hiw hsz' HW HBW hen HC HT H5 H6
        go_region_with (go_at_call 39; with_reducible refine Calls.mono (HA.out _ ?_) ?_; (focus (exact ⟨rfl, rfl, rfl, Nat.le_refl _, fun _ _ => rfl⟩)); rintro e w3 ⟨rfl, z2, hb3⟩)
        all_goals
          have HB3 : Hid (Below W.heap.size W w3) := hb3
          clear hb3 HA
          go_wp2
          go_roundw
          case rel => exact ⟨_, _, _, _, _, _, _, _, _, _, _, _, _, _, _, _, _, _, ⟨_, _, (HR2.out _ HB3.out).1⟩, rfl⟩
          case measure => exact (HR2.out _ HB3.out).2
end Go.Proofs.Ytbfjcfebbadkcaa

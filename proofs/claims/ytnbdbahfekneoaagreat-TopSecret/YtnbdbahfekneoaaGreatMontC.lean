/-
  Bits and digits of a number's limbs; numbers in a ring's form; the contract of mont's digit.
  The contract of mont's firstPowers.
  The contract of mont's raised.
  Contracts of a ring's Exp, and of the document's Power and Exp.
  Contracts of the document's Power and Exp.
-/
import Derived.Test.YtnbdbahfekneoaaGreatMontB
import Derived.Test.YtnbdbahfekneoaaGreatNatD
import Derived.Laws.EntriesVeiled
import Derived.BigRegion
namespace Go.Proofs.YtnbdbahfekneoaaGreat
open Go.RowKit

theorem and_15 {x : Int} (h : 0 ≤ x ∧ x < 18446744073709551616) : bits .and .u64 x 15 = x % 16 := by
  obtain ⟨h0, h1⟩ := h
  go_bits2

set_option maxHeartbeats 400000 in
theorem mdigit_any (a : Option Addr) (la ca : Nat) (es : List Int) (E : Nat) (i : Int) (w : World) (h : Nums w a la ca es) (he : val 18446744073709551616 es = (E : Int)) (hi : 0 ≤ i ∧ i < 16 * (la : Int)) (h8 : la ≤ 64) :
    Calls Tryz.prog 140 #[.slice a la ca, .int .i64 i] w fun e w' => e = .returned (.int .u64 ((E / 16 ^ i.toNat % 16 : Nat) : Int)) ∧ w' = w := by
  have hq : i / 16 < (la : Int) := by omega
  have hq0 : 0 ≤ i / 16 := by omega
  obtain ⟨b, off, rfl, hc⟩ := h.cells (by omega)
  have hcl := hc (i / 16).toNat (by omega)
  have hxw := h.digs.getD (by decide) (i / 16).toNat
  have hb := nat_bits h.digs he (i / 16).toNat (i % 16 * 4).toNat 4 (by omega)
  have e1 : (2 : Nat) ^ (64 * (i / 16).toNat + (i % 16 * 4).toNat) = 16 ^ i.toNat := by
    rw [show (16 : Nat) = 2 ^ 4 by decide, ← Nat.pow_mul]; congr 1; omega
  rw [e1] at hb
  obtain ⟨x, hx⟩ : ∃ x, x = es.getD (i / 16).toNat 0 := ⟨_, rfl⟩
  rw [← hx] at hcl hxw hb
  have HB : Hid (x / 2 ^ (i % 16 * 4).toNat % 2 ^ 4 = ((E / 16 ^ i.toNat % 16 : Nat) : Int)) := hb
  clear hx hc e1 hb he
  go_enter Tryz.func140, Tryz.ntmps140
  go_wp2_with fail
  go_ret
  have hp : (0 : Int) < 2 ^ (i % 16 * 4).toNat := pow_pos' (by decide) _
  have hq1 : 0 ≤ x / 2 ^ (i % 16 * 4).toNat := Int.ediv_nonneg hxw.1 (Int.le_of_lt hp)
  have hq2 : x / 2 ^ (i % 16 * 4).toNat ≤ x := Int.ediv_le_self _ hxw.1
  exact ⟨ret_int (by rw [and_15 ⟨hq1, by omega⟩]; exact HB.out), rfl⟩

/-- The limbs are v in the ring's form. -/
def MF (zs : List Int) (v : Int) (ls : List Int) : Prop := belowB ls zs = true ∧ val 18446744073709551616 ls % val 18446744073709551616 zs = (v * 18446744073709551616 ^ zs.length) % val 18446744073709551616 zs

/-- The value is a slice whose limbs are v in the ring's form. -/
def SV (w : World) (zs : List Int) (v : Int) (x : Value) : Prop := ∃ a n c ls, x = .slice a n c ∧ Nums w a n c ls ∧ MF zs v ls
theorem SV.below {w w' : World} {zs : List Int} {v : Int} {x : Value} (h : SV w zs v x) (hb : Below w.heap.size w w') : SV w' zs v x := by
  obtain ⟨a, n, c, ls, e, hn, hm⟩ := h
  exact ⟨a, n, c, ls, e, hn.below hb, hm⟩

theorem mpMF_any (p : Option Addr) (zs : List Int) (f : Int) (qs : List Int) (a b : Option Addr) (la ca lb cb : Nat) (xs ys : List Int) (u v : Int) (w : World) (h : RingAt w p zs f qs) (hR : RingOk zs f qs) (ha : Nums w a la ca xs) (hb : Nums w b lb cb ys) (hx : MF zs u xs) (hy : MF zs v ys) :
    Calls Tryz.prog 113 #[.pointer p, .slice a la ca, .slice b lb cb] w fun e w' => ∃ a' n c' ls, e = .returned (.slice a' n c') ∧ Nums w' a' n c' ls ∧ MF zs (u * v) ls ∧ Below w.heap.size w w' := by
  have hzd : Digs 18446744073709551616 zs := by obtain ⟨g, na, n, nc, q, m, cq, -, -, -, -, hn, -⟩ := h; exact hn.digs
  refine (mprod_any p zs f qs a b la ca lb cb xs ys w h hR ha hb hx.1 hy.1).mono ?_
  rintro e w' ⟨a', n, c', ls, rfl, hl, hred, hb'⟩
  exact ⟨a', n, c', ls, rfl, hl, ⟨hred.belowB hR.modOk hzd, red_prod hR.modOk hred hx.2 hy.2⟩, hb'⟩

theorem Nums.setCell {w : World} {a : Option Addr} {n c : Nat} {zs : List Int} (h : Nums w a n c zs) {p : Addr} {sa : Option Addr} {sn sc : Nat} (hp : w.cell? p = some (.slice sa sn sc)) (v : Value) : Nums (w.setCell p v) a n c zs := by
  refine ⟨h.hlen, h.hcap, h.hmax, fun h0 => ?_, h.word⟩
  obtain ⟨b, off, e, hc⟩ := h.cells h0
  refine ⟨b, off, e, fun i hi => ?_⟩
  rw [World.cell?_setCell_other]
  · exact hc i hi
  · intro e2
    have := hc i hi
    rw [← e2, hp] at this
    cases this

theorem SV.setCell {w : World} {zs : List Int} {v : Int} {x : Value} (h : SV w zs v x) {p : Addr} {sa : Option Addr} {sn sc : Nat} (hp : w.cell? p = some (.slice sa sn sc)) (y : Value) : SV (w.setCell p y) zs v x := by
  obtain ⟨a, n, c, ls, e, hn, hm⟩ := h
  exact ⟨a, n, c, ls, e, hn.setCell hp y, hm⟩

theorem SV.setRow {w : World} {zs : List Int} {v : Int} {x : Value} (h : SV w zs v x) {g : Nat} {cs : Array Value} {t : TypeId} {fr : Nat × Nat} (hg : w.heap[g]? = some (.cells cs t fr)) (hs : ∀ (j : Nat) (y : Value), cs[j]? = some y → ∃ sa sn sc, y = Value.slice sa sn sc) (ds : Array Value) : SV (w.setRow g ds) zs v x := by
  obtain ⟨a, n, c, ls, e, hn, hm⟩ := h
  refine ⟨a, n, c, ls, e, ⟨hn.hlen, hn.hcap, hn.hmax, fun h0 => ?_, hn.word⟩, hm⟩
  obtain ⟨b, off, e, hc⟩ := hn.cells h0
  refine ⟨b, off, e, fun i hi => ?_⟩
  rw [cell_setRow_other]
  · exact hc i hi
  · intro e2
    have h1 := hc i hi
    simp only at e2
    subst e2
    rw [cell_of_row w b (off + i) cs t fr hg] at h1
    obtain ⟨sa, sn, sc, e3⟩ := hs _ _ h1
    cases e3

theorem below_setRow {w w' : World} {B g : Nat} (h : Below B w w') (hg : B ≤ g) (cs : Array Value) : Below B w (w'.setRow g cs) :=
  h.trans ⟨rfl, rfl, rfl, by simp, fun k hk => setRow_other _ _ _ _ (by omega)⟩

theorem Tryz.infoArr : (Tryz.prog.info? 175).map (·.size) = some 16 := by kernel_rfl

/-- Block g is the sixteen slices. -/
def Arr (w : World) (g : Nat) (cur : Array Value) : Prop := w.heap[g]? = some (.cells cur 175 (0, 0)) ∧ cur.size = 16 ∧ ∀ j, j < 16 → ∃ sa sn sc, cur[j]? = some (.slice sa sn sc)

theorem Arr.lt {w : World} {g : Nat} {cur : Array Value} (h : Arr w g cur) : g < w.heap.size := (Array.getElem?_eq_some_iff.1 h.1).1
theorem Arr.below {w w' : World} {g B : Nat} {cur : Array Value} (h : Arr w g cur) (hb : Below B w w') (hg : g < B) : Arr w' g cur := ⟨(hb.block g hg).trans h.1, h.2⟩
theorem Arr.cell {w : World} {g : Nat} {cur : Array Value} (h : Arr w g cur) (j : Nat) : w.cell? ⟨g, j, none⟩ = cur[j]? := cell_of_row w g j _ _ _ h.1
theorem Arr.frozen {w : World} {g : Nat} {cur : Array Value} (h : Arr w g cur) (j : Nat) : w.frozen? ⟨g, j, none⟩ = false := frozen_of_row w g j _ _ h.1
theorem Arr.set {w : World} {g : Nat} {cur : Array Value} (h : Arr w g cur) (j : Nat) (sa : Option Addr) (sn sc : Nat) : Arr (w.setCell ⟨g, j, none⟩ (.slice sa sn sc)) g (cur.setIfInBounds j (.slice sa sn sc)) := by
  refine ⟨heap_setCell_same w g j _ _ _ h.1, by simp [h.2.1], fun i hi => ?_⟩
  by_cases e : j = i
  · subst e
    exact ⟨sa, sn, sc, by rw [Array.getElem?_setIfInBounds_self_of_lt (by rw [h.2.1]; exact hi)]⟩
  · rw [Array.getElem?_setIfInBounds_ne e]; exact h.2.2 i hi
theorem Arr.other {w : World} {g k j : Nat} {cur : Array Value} (h : Arr w g cur) (hne : g ≠ k) (v : Value) : Arr (w.setCell ⟨k, j, none⟩ v) g cur := ⟨by rw [heap_setCell_other _ _ _ _ hne]; exact h.1, h.2⟩
theorem Arr.slices {w : World} {g : Nat} {cur : Array Value} (h : Arr w g cur) : ∀ (j : Nat) (y : Value), cur[j]? = some y → ∃ sa sn sc, y = Value.slice sa sn sc := by
  intro j y hy
  have hj : j < 16 := by have := (Array.getElem?_eq_some_iff.1 hy).1; have := h.2.1; omega
  obtain ⟨sa, sn, sc, e⟩ := h.2.2 j hj
  rw [e] at hy
  exact ⟨sa, sn, sc, by cases hy; rfl⟩
theorem Arr.one {w : World} {g : Nat} {cur : Array Value} (h : Arr w g cur) : cur.all (·.oneCell') = true := by
  rw [Array.all_eq_true_iff_forall_mem]
  intro x hx
  obtain ⟨j, hj, rfl⟩ := Array.getElem_of_mem hx
  obtain ⟨sa, sn, sc, e⟩ := h.slices j cur[j] (by simp [hj])
  rw [e]; rfl
end Go.Proofs.YtnbdbahfekneoaaGreat

namespace Go.Proofs.YtnbdbahfekneoaaGreat
open Go.RowKit

def arr16 (y : Value) : Array Value := #[y, .slice none 0 0, .slice none 0 0, .slice none 0 0, .slice none 0 0, .slice none 0 0, .slice none 0 0, .slice none 0 0, .slice none 0 0, .slice none 0 0, .slice none 0 0, .slice none 0 0, .slice none 0 0, .slice none 0 0, .slice none 0 0, .slice none 0 0]

theorem arr_new (w : World) (sa : Option Addr) (sn sc : Nat) : Arr (w.alloc (.cells (arr16 (.slice sa sn sc)) 175)) w.heap.size (arr16 (.slice sa sn sc)) := by
  refine ⟨heap_alloc_new _ _, rfl, fun j hj => ?_⟩
  have : j = 0 ∨ j = 1 ∨ j = 2 ∨ j = 3 ∨ j = 4 ∨ j = 5 ∨ j = 6 ∨ j = 7 ∨ j = 8 ∨ j = 9 ∨ j = 10 ∨ j = 11 ∨ j = 12 ∨ j = 13 ∨ j = 14 ∨ j = 15 := by omega
  rcases this with rfl | rfl | rfl | rfl | rfl | rfl | rfl | rfl | rfl | rfl | rfl | rfl | rfl | rfl | rfl | rfl <;> exact ⟨_, _, _, rfl⟩

set_option maxHeartbeats 1600000 in
theorem fpow_any (p : Option Addr) (zs : List Int) (f : Int) (qs : List Int) (a b : Option Addr) (la ca lb cb : Nat) (os xs : List Int) (v : Int) (w : World) (h : RingAt w p zs f qs) (hR : RingOk zs f qs) (ha : Nums w a la ca os) (hb : Nums w b lb cb xs) (ho : MF zs 1 os) (hx : MF zs v xs) :
    Calls Tryz.prog 139 #[.slice a la ca, .slice b lb cb, .func (.func 113) #[.pointer p] #[]] w fun e w' => ∃ cur : Array Value, e = .returned (.agg cur) ∧ cur.size = 16 ∧ (∀ j, j < 16 → ∃ y, cur[j]? = some y ∧ SV w' zs (v ^ j) y) ∧ Below w.heap.size w w' := by
  go_enter Tryz.func139, Tryz.ntmps139
  go_wp2
  go_loopw [11] (fun iv wr => ∃ i : Nat, i ≤ 15 ∧ iv = .int .i64 i ∧ ∃ cur, Arr wr (w.heap.size + 1) cur ∧ (∃ c0, Arr wr w.heap.size c0) ∧ (∀ j, j ≤ i → ∃ y, cur[j]? = some y ∧ SV wr zs (v ^ j) y) ∧ Below w.heap.size w wr) (fun iv _ => 15 - (intOf iv).toNat)
  case atStart =>
    have W1 := arr_new w none 0 0
    have W2 := arr_new (w.alloc (.cells (arr16 (.slice none 0 0)) 175)) a la ca
    have B1 := (Below.refl (w.alloc (.cells (arr16 (.slice none 0 0)) 175)).heap.size (w.alloc (.cells (arr16 (.slice none 0 0)) 175))).alloc (Nat.le_refl _) (.cells (arr16 (.slice a la ca)) 175)
    have W3 := W1.below B1 (by simp)
    have B2 := ((Below.refl w.heap.size w).alloc (Nat.le_refl _) (.cells (arr16 (.slice none 0 0)) 175)).alloc (by simp) (.cells (arr16 (.slice a la ca)) 175)
    rw [World.size_alloc] at W2
    refine ⟨0, by omega, rfl, arr16 (.slice a la ca), W2, ⟨_, W3⟩, fun j hj => ?_, B2⟩
    obtain rfl : j = 0 := by omega
    exact ⟨.slice a la ca, rfl, a, la, ca, os, rfl, ha.below B2, by rw [Int.pow_zero]; exact ho⟩
  case round =>
    obtain ⟨i, hi, rfl, cur, hA, ⟨c0, hC⟩, hS, hbr⟩ := hrel
    have hlt0 := hA.lt
    by_cases hlt : i < 15
    · have hlti : (i : Int) < 15 := by omega
      obtain ⟨y, hy, ya, yn, yc, ys, rfl, hyn, hym⟩ := hS i (Nat.le_refl _)
      have hc1 : wr.cell? ⟨w.heap.size + 1, i, none⟩ = some (.slice ya yn yc) := by rw [hA.cell]; exact hy
      have hRr := h.below hbr
      have hbx := hb.below hbr
      have HA : Hid (Arr wr (w.heap.size + 1) cur ∧ Arr wr w.heap.size c0 ∧ (∀ j, j ≤ i → ∃ y, cur[j]? = some y ∧ SV wr zs (v ^ j) y)) := ⟨hA, hC, hS⟩
      clear hA hC hS hy
      go_wp2_with fail
      refine (mpMF_any _ _ _ _ _ _ _ _ _ _ _ _ _ _ _ hRr hR hyn hbx hym hx).mono ?_
      rintro e w2 ⟨za, zn, zc, ls, rfl, hz, hzm, hb2⟩
      have hA2 : Arr w2 (w.heap.size + 1) cur := HA.out.1.below hb2 hlt0
      have hC2 : Arr w2 w.heap.size c0 := HA.out.2.1.below hb2 (by omega)
      obtain ⟨sa, sn, sc, hold⟩ := hA2.2.2 (i + 1) (by omega)
      have hc2 : w2.cell? ⟨w.heap.size + 1, i + 1, none⟩ = some (.slice sa sn sc) := by rw [hA2.cell]; exact hold
      have hf2 : w2.frozen? ⟨w.heap.size + 1, i + 1, none⟩ = false := hA2.frozen _
      have hB2 := hbr.trans (hb2.mono hbr.size)
      have HP : Hid (Arr (w2.setCell ⟨w.heap.size + 1, i + 1, none⟩ (.slice za zn zc)) (w.heap.size + 1) (cur.setIfInBounds (i + 1) (.slice za zn zc)) ∧ Arr (w2.setCell ⟨w.heap.size + 1, i + 1, none⟩ (.slice za zn zc)) w.heap.size c0 ∧
          (∀ j, j ≤ i + 1 → ∃ y, (cur.setIfInBounds (i + 1) (.slice za zn zc))[j]? = some y ∧ SV (w2.setCell ⟨w.heap.size + 1, i + 1, none⟩ (.slice za zn zc)) zs (v ^ j) y) ∧ Below w.heap.size w (w2.setCell ⟨w.heap.size + 1, i + 1, none⟩ (.slice za zn zc))) := by
        refine ⟨hA2.set _ _ _ _, hC2.other (by omega) _, fun j hj => ?_, hB2.setCell (by simp) _⟩
        by_cases e : i + 1 = j
        · subst e
          exact ⟨_, Array.getElem?_setIfInBounds_self_of_lt (by rw [hA2.2.1]; omega), (show SV w2 zs (v ^ (i + 1)) (.slice za zn zc) from ⟨za, zn, zc, ls, rfl, hz, by rw [Int.pow_succ]; exact hzm⟩).setCell hc2 _⟩
        · obtain ⟨y, hy, hsv⟩ := HA.out.2.2 j (by omega)
          exact ⟨y, by rw [Array.getElem?_setIfInBounds_ne e]; exact hy, (hsv.below hb2).setCell hc2 _⟩
      clear hA2 hC2 hold hb2 hB2 hz hzm HA hRr hbx hyn hym hc1 hbr
      go_wp2
      go_roundw
      case rel => exact ⟨i + 1, by omega, by go_num, _, HP.out.1, ⟨c0, HP.out.2.1⟩, HP.out.2.2.1, HP.out.2.2.2⟩
      case measure => simp [intOf]; omega
    · obtain rfl : i = 15 := by omega
      have HX : Hid (cur.size = 16 ∧ (∀ j, j < 16 → ∃ y, cur[j]? = some y ∧ SV (wr.setRow w.heap.size cur) zs (v ^ j) y) ∧ Below w.heap.size w (wr.setRow w.heap.size cur)) := by
        refine ⟨hA.2.1, fun j hj => ?_, below_setRow hbr (Nat.le_refl _) _⟩
        obtain ⟨y, hy, hsv⟩ := hS j (by omega)
        exact ⟨y, hy, hsv.setRow hC.1 hC.slices _⟩
      have HI : (Tryz.prog.info? 175).map (·.size) = some cur.size := by rw [hA.2.1]; exact Tryz.infoArr
      have HG := setRow_heap wr w.heap.size c0 cur 175 (0, 0) hC.1
      go_wp2_with (first
        | refine wpList_load_row rfl 175 _ rfl (w.heap.size + 1) rfl 175 cur (0, 0) _ hA.1 Tryz.underlying175 rfl HI ?_
        | refine wpList_store_row rfl 175 _ _ rfl w.heap.size cur rfl rfl 175 c0 hC.1 HI (by rw [hC.2.1, hA.2.1]) hA.one ?_)
      refine bodyPost_ret (results_cell_row rfl _ _ w.heap.size 175 cur (0, 0) _ rfl HG Tryz.underlying175 rfl HI) rfl ?_
      exact ⟨cur, rfl, HX.out.1, HX.out.2.1, HX.out.2.2⟩
end Go.Proofs.YtnbdbahfekneoaaGreat

namespace Go.Proofs.YtnbdbahfekneoaaGreat
open Go.RowKit

theorem pow_dig {E c i : Nat} (h : i < c) : E / 16 ^ (c - (i + 1)) = (E / 16 ^ (c - i)) * 16 + E / 16 ^ (c - 1 - i) % 16 := by
  have e1 : c - i = (c - 1 - i) + 1 := by omega
  have e2 : c - (i + 1) = c - 1 - i := by omega
  rw [e1, e2, Nat.pow_succ, ← Nat.div_div_eq_div_mul]
  omega

theorem pow_two_step (v : Int) (k t : Nat) : v ^ (k * 2 ^ (t + 1)) = v ^ (k * 2 ^ t) * v ^ (k * 2 ^ t) := by
  rw [← Int.pow_add]; congr 1
  rw [Nat.pow_succ, ← Nat.mul_assoc]; omega

theorem count_ok {bz : Int} {cnt : Nat} {E : Nat} (h : (cnt : Int) = (bz + 3) / 4) (h0 : 0 ≤ bz) (hE : E < 2 ^ bz.toNat) : E / 16 ^ cnt = 0 := by
  apply Nat.div_eq_of_lt
  have e : (16 : Nat) ^ cnt = 2 ^ (4 * cnt) := by rw [Nat.pow_mul]
  rw [e]
  exact Nat.lt_of_lt_of_le hE (Nat.pow_le_pow_right (by omega) (by omega))

set_option maxHeartbeats 3200000 in
theorem raised_any (p : Option Addr) (zs : List Int) (f : Int) (qs : List Int) (a b c : Option Addr) (la ca lb cb lc cc : Nat) (os xs es : List Int) (v : Int) (E : Nat) (w : World) (h : RingAt w p zs f qs) (hR : RingOk zs f qs) (ha : Nums w a la ca os) (hb : Nums w b lb cb xs) (hc : Nums w c lc cc es) (ho : MF zs 1 os) (hx : MF zs v xs)
    (he : val 18446744073709551616 es = (E : Int)) (hr : rightB es = true) (h8 : lc ≤ 8) :
    Calls Tryz.prog 114 #[.slice a la ca, .slice b lb cb, .slice c lc cc, .func (.func 113) #[.pointer p] #[]] w fun e w' => ∃ a' n c' ls, e = .returned (.slice a' n c') ∧ Nums w' a' n c' ls ∧ MF zs (v ^ E) ls ∧ Below w.heap.size w w' := by
  obtain ⟨bz, hbz⟩ : ∃ bz, bz = bitsZ es := ⟨_, rfl⟩
  have hbl := bits_lt hc.digs hr he
  have hcl := hc.hlen
  rw [← hbz, hcl] at hbl
  have HB : Hid (bz = bitsZ es) := hbz
  obtain ⟨cnt, hcnt⟩ : ∃ cnt : Nat, (cnt : Int) = (bz + 3) / 4 := ⟨((bz + 3) / 4).toNat, by omega⟩
  have HE0 : Hid (E / 16 ^ cnt = 0) := count_ok hcnt hbl.1 hbl.2.2
  have hb0 : 0 ≤ bz ∧ bz ≤ 512 := by omega
  have hcn : cnt ≤ 16 * lc := by omega
  clear hcl hbz hbl
  go_enter Tryz.func114, Tryz.ntmps114
  go_wp2_with fail
  refine (fpow_any p zs f qs a b la ca lb cb os xs v w h hR ha hb ho hx).mono ?_
  rintro e w1 ⟨cur, rfl, hsz, hS, hb1⟩
  have HS1 : Hid (∀ j, j < 16 → ∃ y, cur[j]? = some y ∧ SV w1 zs (v ^ j) y) := hS
  have HI : (Tryz.prog.info? 175).map (·.size) = some cur.size := by rw [hsz]; exact Tryz.infoArr
  have hone : cur.all (·.oneCell') = true := by
    rw [Array.all_eq_true_iff_forall_mem]
    intro x hx
    obtain ⟨j, hj, rfl⟩ := Array.getElem_of_mem hx
    obtain ⟨y, hy, sa, sn, sc, ls, rfl, -, -⟩ := hS j (by omega)
    rw [Array.getElem?_eq_getElem hj] at hy
    simp only [Option.some.injEq] at hy
    rw [hy]; rfl
  have hnew := arr_new w1 none 0 0
  clear hS
  go_wp2_with (refine wpList_store_row rfl 175 _ _ rfl w1.heap.size cur rfl rfl 175 (arr16 (.slice none 0 0)) hnew.1 HI (by rw [hsz]; rfl) hone ?_)
  have hB2 := hb1.alloc hb1.size (.cells (arr16 (.slice none 0 0)) 175)
  have hB3 := below_setRow hB2 (g := w1.heap.size) hb1.size cur
  have HS3 : Hid (∀ j, j < 16 → ∃ y, cur[j]? = some y ∧ SV ((w1.alloc (.cells (arr16 (.slice none 0 0)) 175)).setRow w1.heap.size cur) zs (v ^ j) y) := fun j hj => by
    obtain ⟨y, hy, hsv⟩ := HS1.out j hj
    exact ⟨y, hy, (hsv.below ((Below.refl _ _).alloc (Nat.le_refl _) _)).setRow hnew.1 hnew.slices _⟩
  have hcells : ∀ j, ((w1.alloc (.cells (arr16 (.slice none 0 0)) 175)).setRow w1.heap.size cur).cell? ⟨w1.heap.size, j, none⟩ = cur[j]? := fun j => cell_setRow_same _ _ _ _ _ _ _ hnew.1
  have hsz3 : w1.heap.size < ((w1.alloc (.cells (arr16 (.slice none 0 0)) 175)).setRow w1.heap.size cur).heap.size := by simp
  obtain ⟨w3, hw3⟩ : ∃ w3, w3 = (w1.alloc (.cells #[Value.slice none 0 0, Value.slice none 0 0, Value.slice none 0 0, Value.slice none 0 0, Value.slice none 0 0, Value.slice none 0 0, Value.slice none 0 0, Value.slice none 0 0, Value.slice none 0 0, Value.slice none 0 0, Value.slice none 0 0, Value.slice none 0 0, Value.slice none 0 0, Value.slice none 0 0, Value.slice none 0 0, Value.slice none 0 0] 175)).setRow w1.heap.size cur := ⟨_, rfl⟩
  have hw3' : w3 = (w1.alloc (.cells (arr16 (.slice none 0 0)) 175)).setRow w1.heap.size cur := hw3
  rw [← hw3'] at hB3 hcells hsz3
  rw [← hw3'] at HS3
  rw [← hw3]
  have ha3 := ha.below hB3
  have hc3 := hc.below hB3
  have hR3 := h.below hB3
  have HC : Hid (∀ j, w3.cell? ⟨w1.heap.size, j, none⟩ = cur[j]?) := hcells
  clear hw3 hw3' hcells hnew hB2 HS1 HI hone
  generalize w1.heap.size = g at *
  refine (bits_any _ _ _ _ _ hc3).mono ?_
  rintro e w4 ⟨rfl, rfl⟩
  rw [← HB.out]
  go_wp2
  go_loopw [10, 24] (fun pv iv wr => ∃ i : Nat, i ≤ cnt ∧ iv = .int .i64 i ∧ SV wr zs (v ^ (E / 16 ^ (cnt - i))) pv ∧ Below w4.heap.size w4 wr) (fun _ iv _ => cnt - (intOf iv).toNat)
  case atStart => exact ⟨0, Nat.zero_le _, rfl, ⟨a, la, ca, os, rfl, ha3, by rw [Nat.sub_zero, HE0.out, Int.pow_zero]; exact ho⟩, Below.refl _ _⟩
  case round =>
    obtain ⟨i, hi, rfl, ⟨pa, pn, pc, ps, rfl, hp, hpm⟩, hbr⟩ := hrel
    by_cases hlt : i < cnt
    · have hlti : (i : Int) < (bz + 4 - 1) / 4 := by omega
      have hlti2 : (i : Int) < (bz + 3) / 4 := by omega
      obtain ⟨d, hd⟩ : ∃ d, d = E / 16 ^ (cnt - 1 - i) % 16 := ⟨_, rfl⟩
      have hd16 : d < 16 := by rw [hd]; exact Nat.mod_lt _ (by decide)
      obtain ⟨y, hy, da, dn, dc, ds, rfl, hdn, hdm⟩ := HS3.out d hd16
      have HDc : Hid (w4.cell? ⟨g, d, none⟩ = some (.slice da dn dc)) := (HC.out d).trans hy
      have HD : Hid (d = E / 16 ^ (cnt - 1 - i) % 16) := hd
      have hdi : (d : Int) < 16 := by omega
      have HP : Hid (MF zs (v ^ (E / 16 ^ (cnt - i) * 2 ^ 0)) ps) := by rw [Nat.pow_zero, Nat.mul_one]; exact hpm
      clear hy hd hpm
      generalize hk : E / 16 ^ (cnt - i) = k at *
      have HK : Hid (E / 16 ^ (cnt - i) = k) := hk
      clear hk
      go_wp2
      go_loopw [10, 27] (fun pv tv wq => ∃ t : Nat, t ≤ 4 ∧ tv = .int .i64 t ∧ SV wq zs (v ^ (k * 2 ^ t)) pv ∧ Below w4.heap.size w4 wq) (fun _ tv _ => 4 - (intOf tv).toNat)
      case atStart => exact ⟨0, by omega, rfl, ⟨pa, pn, pc, ps, rfl, hp, HP.out⟩, hbr⟩
      case round =>
        clear hp HP hbr
        obtain ⟨t, ht, rfl, ⟨ra, rn, rc, rs, rfl, hrn, hrm⟩, hbq⟩ := hrel
        by_cases hlt4 : t < 4
        · have hti : (t : Int) < 4 := by omega
          have hRq := hR3.below hbq
          go_wp2_with fail
          refine (mpMF_any _ _ _ _ _ _ _ _ _ _ _ _ _ _ _ hRq hR hrn hrn hrm hrm).mono ?_
          rintro e w5 ⟨za, zn, zc, ls, rfl, hz, hzm, hb5⟩
          have hB5 := hbq.trans (hb5.mono hbq.size)
          have HZ : Hid (MF zs (v ^ (k * 2 ^ (t + 1))) ls) := by rw [pow_two_step]; exact hzm
          clear hzm hrm hrn hbq hb5 hRq
          go_wp2
          go_roundw
          case rel => exact ⟨t + 1, by omega, by go_num, ⟨za, zn, zc, ls, rfl, hz, HZ.out⟩, hB5⟩
          case measure => simp [intOf]; omega
        · obtain rfl : t = 4 := by omega
          have hcq := hc3.below hbq
          have hRq := hR3.below hbq
          have hdq := hdn.below hbq
          have HM : Hid (MF zs (v ^ (k * 16)) rs) := hrm
          have hdc : ∀ wx, Below w4.heap.size w4 wx → wx.cell? ⟨g, d, none⟩ = some (.slice da dn dc) := fun wx hbx => (hbx.cell (p := ⟨g, d, none⟩) hsz3).trans HDc.out
          have hcell := hdc _ hbq
          have hidx : ((bz + 4 - 1) / 4 - 1 - (i : Int)).toNat = cnt - 1 - i := by omega
          have HDig : Hid (∀ wx, Nums wx c lc cc es → Calls Tryz.prog 140 #[.slice c lc cc, .int .i64 ((bz + 4 - 1) / 4 - 1 - (i : Int))] wx fun e w' => e = .returned (.int .u64 (d : Int)) ∧ w' = wx) := fun wx hn => by
            have := mdigit_any c lc cc es E ((bz + 4 - 1) / 4 - 1 - (i : Int)) wx hn he (by omega) (by omega)
            rw [hidx, ← HD.out] at this
            exact this
          clear hrm hdc hidx
          go_wp2_with fail
          refine (HDig.out _ hcq).mono ?_
          rintro e w5 ⟨rfl, rfl⟩
          go_wp2_with fail
          refine (mpMF_any _ _ _ _ _ _ _ _ _ _ _ _ _ _ _ hRq hR hrn hdq HM.out hdm).mono ?_
          rintro e w6 ⟨za, zn, zc, ls, rfl, hz, hzm, hb6⟩
          have hB6 := hbq.trans (hb6.mono hbq.size)
          have HZ : Hid (MF zs (v ^ (E / 16 ^ (cnt - (i + 1)))) ls) := by
            rw [pow_dig hlt, HK.out, ← HD.out, Int.pow_add]; exact hzm
          clear hzm hbq hb6 hRq hcq hdq hcell
          go_wp2
          go_roundw
          case rel => exact ⟨i + 1, by omega, by go_num, ⟨za, zn, zc, ls, rfl, hz, HZ.out⟩, hB6⟩
          case measure => simp [intOf]; omega
    · have hge : ¬ (i : Int) < (bz + 4 - 1) / 4 := by omega
      have hge2 : ¬ (i : Int) < (bz + 3) / 4 := by omega
      obtain rfl : i = cnt := by omega
      go_wp2
      go_ret
      have hB := hB3.trans (hbr.mono hB3.size)
      refine ⟨pa, pn, pc, rfl, ps, hp, ?_, hB⟩
      rw [Nat.sub_self, Nat.pow_zero, Nat.div_one] at hpm
      exact hpm
end Go.Proofs.YtnbdbahfekneoaaGreat

namespace Go.Proofs.YtnbdbahfekneoaaGreat
open Go.RowKit

/-- What is told of a power. -/
def ResExp (ok : Bool) (zs : List Int) (v : Int) (E : Nat) (ls : List Int) (err : Int) : Prop := if ok = true then err = 0 ∧ Digs 18446744073709551616 ls ∧ belowB ls zs = true ∧ val 18446744073709551616 ls = v ^ E % val 18446744073709551616 zs else err = 1 ∧ ls = []

theorem ResExp.bad (zs : List Int) (v : Int) (E : Nat) : ResExp false zs v E [] 1 := by simp [ResExp]
theorem ResExp.ok {zs : List Int} {v : Int} {E : Nat} {ls : List Int} (h0 : Digs 18446744073709551616 ls) (h1 : belowB ls zs = true) (h2 : val 18446744073709551616 ls = v ^ E % val 18446744073709551616 zs) : ResExp true zs v E ls 0 := by simp only [ResExp, if_true]; exact ⟨trivial, h0, h1, h2⟩
theorem ResExp.unique {ok : Bool} {zs : List Int} {v : Int} {E : Nat} {ls ks : List Int} {e f : Int} (h : ResExp ok zs v E ls e) (h' : ResExp ok zs v E ks f) : ls = ks ∧ e = f := by
  unfold ResExp at h h'
  cases ok with
  | false => simp at h h'; exact ⟨h.2.trans h'.2.symm, h.1.trans h'.1.symm⟩
  | true =>
    rw [if_pos rfl] at h h'
    exact ⟨val_inj (by decide) h.2.1 h'.2.1 (right_top (below_parts h.2.2.1).1) (right_top (below_parts h'.2.2.1).1) (h.2.2.2.trans h'.2.2.2.symm), h.1.trans h'.1.symm⟩

/-- May the arguments of a power be? -/
def expB (xs es zs : List Int) : Bool := belowB xs zs && (rightB es && decide (es.length ≤ 8))

theorem mf_one {zs ls qs : List Int} {f : Int} (hR : RingOk zs f qs) (hd : Digs 18446744073709551616 zs) (h : Red zs (val 18446744073709551616 qs) ls) : MF zs 1 ls := by
  refine ⟨h.belowB hR.modOk hd, red_in (a := 1) hR.modOk (h.mod ?_)⟩
  rw [hR.sq, Int.emod_emod, Int.one_mul]

theorem mf_in {zs ls qs xs : List Int} {f : Int} (hR : RingOk zs f qs) (hd : Digs 18446744073709551616 zs) (h : Red zs (val 18446744073709551616 xs * val 18446744073709551616 qs) ls) : MF zs (val 18446744073709551616 xs) ls := by
  refine ⟨h.belowB hR.modOk hd, red_in hR.modOk (h.mod ?_)⟩
  rw [hR.sq, Int.mul_emod, Int.emod_emod, ← Int.mul_emod]

theorem mf_out {zs ls ps : List Int} {v : Int} (hm : ModOk zs) (hd : Digs 18446744073709551616 zs) (h : Red zs (val 18446744073709551616 ps) ls) (hp : MF zs v ps) : belowB ls zs = true ∧ val 18446744073709551616 ls = v % val 18446744073709551616 zs := by
  refine ⟨h.belowB hm hd, ?_⟩
  have e := h.2.2.2
  rw [hp.2, Int.mul_comm v, pow64] at e
  have e2 := pow_cancel hm.odd _ e
  rw [Int.emod_eq_of_lt (val_nonneg (by decide) h.1) h.2.2.1] at e2
  exact e2

theorem sq_fits {zs qs : List Int} {f : Int} (hR : RingOk zs f qs) : val 18446744073709551616 qs < val 18446744073709551616 zs * 18446744073709551616 ^ zs.length := by
  have h1 : val 18446744073709551616 qs < val 18446744073709551616 zs := by rw [hR.sq]; exact Int.emod_lt_of_pos _ (by have := hR.three; omega)
  have h2 := pow_pos' (B := 18446744073709551616) (by decide) zs.length
  have h3 : val 18446744073709551616 zs * 1 ≤ val 18446744073709551616 zs * 18446744073709551616 ^ zs.length := Int.mul_le_mul_of_nonneg_left (by omega) (by have := hR.three; omega)
  omega

theorem below_fits {zs ps qs : List Int} {f : Int} (hR : RingOk zs f qs) (h : belowB ps zs = true) : val 18446744073709551616 ps < val 18446744073709551616 zs * 18446744073709551616 ^ zs.length := by
  have h1 := (below_parts h).2
  have h2 := pow_pos' (B := 18446744073709551616) (by decide) zs.length
  have h3 : val 18446744073709551616 zs * 1 ≤ val 18446744073709551616 zs * 18446744073709551616 ^ zs.length := Int.mul_le_mul_of_nonneg_left (by omega) (by have := hR.three; omega)
  omega

set_option maxHeartbeats 1600000 in
theorem mExp_any (p : Option Addr) (zs : List Int) (f : Int) (qs : List Int) (a b : Option Addr) (la ca lb cb : Nat) (xs es : List Int) (E : Nat) (w : World) (h : RingAt w p zs f qs) (hR : RingOk zs f qs) (ha : Nums w a la ca xs) (hb : Nums w b lb cb es) (he : val 18446744073709551616 es = (E : Int)) :
    Calls Tryz.prog 79 #[.pointer p, .slice a la ca, .slice b lb cb] w fun e w' => ∃ a' n c' ls err, e = .returned (.tuple #[.slice a' n c', .int .i64 err]) ∧ Nums w' a' n c' ls ∧
      ResExp (expB xs es zs) zs (val 18446744073709551616 xs) E ls err ∧ Below w.heap.size w w' := by
  have HR0 := h
  obtain ⟨g, na, n, nc, q, m, cq, rfl, h0, h1, h2, hn, hq⟩ := h
  have hel := hb.hlen
  cases hx : belowB xs zs with
  | false =>
    have e : expB xs es zs = false := by simp [expB, hx]
    rw [e]
    clear hel
    go_enter Tryz.func79, Tryz.ntmps79
    go_wp2_with fail
    refine (has_any _ _ _ _ _ _ _ _ _ HR0 hR.right ha).mono ?_
    rintro e w1 ⟨rfl, hb1⟩
    rw [hx]
    go_wp2_with fail
    go_ret2
    exact ⟨none, 0, 0, [], 1, rfl, Nums.nil _, ResExp.bad _ _ _, hb1⟩
  | true =>
  cases hr : rightB es with
  | false =>
    have e : expB xs es zs = false := by simp [expB, hr]
    rw [e]
    clear hel
    go_enter Tryz.func79, Tryz.ntmps79
    go_wp2_with fail
    refine (has_any _ _ _ _ _ _ _ _ _ HR0 hR.right ha).mono ?_
    rintro e w1 ⟨rfl, hb1⟩
    rw [hx]
    go_wp2_with fail
    refine (right_any _ _ _ _ _ (hb.below hb1)).mono ?_
    rintro e w2 ⟨rfl, rfl⟩
    rw [hr]
    go_wp2_with fail
    go_ret2
    exact ⟨none, 0, 0, [], 1, rfl, Nums.nil _, ResExp.bad _ _ _, hb1⟩
  | true =>
  by_cases h8 : lb ≤ 8
  · have e : expB xs es zs = true := by simp [expB, hx, hr, hel, h8]
    rw [e]
    have hqb := hR.sqB hn.digs hq.digs
    have hzd := hn.digs
    have hd8 : decide ((8 : Int) < (lb : Int)) = false := by simp; omega
    clear hel e
    go_enter Tryz.func79, Tryz.ntmps79
    go_wp2_with fail
    refine (has_any _ _ _ _ _ _ _ _ _ HR0 hR.right ha).mono ?_
    rintro e w1 ⟨rfl, hb1⟩
    rw [hx]
    go_wp2_with fail
    refine (right_any _ _ _ _ _ (hb.below hb1)).mono ?_
    rintro e w2 ⟨rfl, rfl⟩
    rw [hr]
    have k2 : w2.cell? ⟨g, 2, none⟩ = some (.slice q m cq) := (hb1.cell (World.block_lt_of_cell? w _ h2)).trans h2
    have HR1 := HR0.below hb1
    have ha1 := ha.below hb1
    have hq1 := hq.below hb1
    have hB1 := hb.below hb1
    have HRed : Hid (∀ wx, RingAt wx (some ⟨g, 0, none⟩) zs f qs → Nums wx a la ca xs → Nums wx b lb cb es → Nums wx q m cq qs → wx.cell? ⟨g, 2, none⟩ = some (.slice q m cq) → Below w.heap.size w wx →
        Calls Tryz.prog 112 #[.pointer (some ⟨g, 0, none⟩), .slice q m cq] wx fun e w' => ∃ oa on oc, e = .returned (.slice oa on oc) ∧ (∃ os, Nums w' oa on oc os ∧ MF zs 1 os ∧ RingAt w' (some ⟨g, 0, none⟩) zs f qs ∧ Nums w' a la ca xs ∧ Nums w' b lb cb es ∧ Nums w' q m cq qs ∧ Below w.heap.size w w') ∧ w'.cell? ⟨g, 2, none⟩ = some (.slice q m cq)) := by
      intro wx r1 r2 r3 r4 r5 r6
      refine (reduced_any _ _ _ _ _ _ _ _ _ r1 hR r4 (below_parts hqb).1 (sq_fits hR)).mono ?_
      rintro e w3 ⟨oa, on, oc, os, rfl, ho, hred, hb3⟩
      exact ⟨oa, on, oc, rfl, ⟨os, ho, mf_one hR hzd hred, r1.below hb3, r2.below hb3, r3.below hb3, r4.below hb3, r6.trans (hb3.mono r6.size)⟩, (hb3.cell (World.block_lt_of_cell? _ _ r5)).trans r5⟩
    have HPr : Hid (∀ wx (oa : Option Addr) (on oc : Nat), (∃ os, Nums wx oa on oc os ∧ MF zs 1 os ∧ RingAt wx (some ⟨g, 0, none⟩) zs f qs ∧ Nums wx a la ca xs ∧ Nums wx b lb cb es ∧ Nums wx q m cq qs ∧ Below w.heap.size w wx) →
        Calls Tryz.prog 113 #[.pointer (some ⟨g, 0, none⟩), .slice a la ca, .slice q m cq] wx fun e w' => ∃ pa pn pc, e = .returned (.slice pa pn pc) ∧ ∃ os ps, Nums w' oa on oc os ∧ MF zs 1 os ∧ Nums w' pa pn pc ps ∧ MF zs (val 18446744073709551616 xs) ps ∧ RingAt w' (some ⟨g, 0, none⟩) zs f qs ∧ Nums w' b lb cb es ∧ Below w.heap.size w w') := by
      rintro wx oa on oc ⟨os, r1, r2, r3, r4, r5, r6, r7⟩
      refine (mprod_any _ _ _ _ _ _ _ _ _ _ _ _ _ r3 hR r4 r6 hx hqb).mono ?_
      rintro e w3 ⟨pa, pn, pc, ps, rfl, hp, hred, hb3⟩
      exact ⟨pa, pn, pc, rfl, os, ps, r1.below hb3, r2, hp, mf_in hR hzd hred, r3.below hb3, r5.below hb3, r7.trans (hb3.mono r7.size)⟩
    clear h0 h1 h2 HR0 ha hn hq hb
    go_wp2_with fail
    go_region_with (first
      | (go_at_call 112; refine (HRed.out _ ?_ ?_ ?_ ?_ ?_ ?_).mono ?_; (exact HR1.below ⟨rfl, rfl, rfl, Nat.le_refl _, fun _ _ => rfl⟩); (exact ⟨ha1.hlen, ha1.hcap, ha1.hmax, ha1.cells, ha1.word⟩); (exact ⟨hB1.hlen, hB1.hcap, hB1.hmax, hB1.cells, hB1.word⟩); (exact ⟨hq1.hlen, hq1.hcap, hq1.hmax, hq1.cells, hq1.word⟩); (exact k2); (exact ⟨hb1.os, hb1.tape, hb1.output, hb1.size, hb1.block⟩); rintro e w3 ⟨oa, on, oc, rfl, hO3, k3⟩)
      | (go_at_call 113; refine (HPr.out _ oa on oc ?_).mono ?_; (exact hO3); rintro e w4 ⟨pa, pn, pc, rfl, hP4⟩))
    all_goals
      obtain ⟨os, ps, r1, r2, r3, r4, r5, r6, r7⟩ := hP4
      clear hO3 k3 k2 HR1 ha1 hq1 hB1 HRed HPr hb1
      have hmf : ∀ (fn : Fn) (first cap : Array Value) (w : World), (Instr.makeFunc fn first cap).run Tryz.prog w = .ok (.func fn first cap) w := fun _ _ _ _ => rfl
      go_wp2_with fail
      refine (raised_any _ _ _ _ _ _ _ _ _ _ _ _ _ _ _ _ _ _ _ r5 hR r1 r3 r6 r2 r4 he hr h8).mono ?_
      rintro e w5 ⟨ta, tn, tc, ts, rfl, ht, htm, hb5⟩
      have hB5 := r7.trans (hb5.mono r7.size)
      have hR5 := r5.below hb5
      clear r1 r2 r3 r4 r5 r6 r7 hb5
      go_wp2_with fail
      refine (reduced_any _ _ _ _ _ _ _ _ _ hR5 hR ht (below_parts htm.1).1 (below_fits hR htm.1)).mono ?_
      rintro e w6 ⟨ua, un, uc, us, rfl, hu, hred, hb6⟩
      have HQ := (show Hid _ from mf_out hR.modOk hzd hred htm)
      have hB6 := hB5.trans (hb6.mono hB5.size)
      clear hred htm
      go_wp2_with fail
      go_ret2
      exact ⟨_, _, _, _, _, rfl, hu, ResExp.ok hu.digs HQ.out.1 HQ.out.2, hB6⟩
  · have e : expB xs es zs = false := by simp [expB, hel, h8]
    rw [e]
    have hlt : (8 : Int) < (lb : Int) := by omega
    clear hel e
    go_enter Tryz.func79, Tryz.ntmps79
    go_wp2_with fail
    refine (has_any _ _ _ _ _ _ _ _ _ HR0 hR.right ha).mono ?_
    rintro e w1 ⟨rfl, hb1⟩
    rw [hx]
    go_wp2_with fail
    refine (right_any _ _ _ _ _ (hb.below hb1)).mono ?_
    rintro e w2 ⟨rfl, rfl⟩
    rw [hr]
    go_wp2_with fail
    go_ret2
    exact ⟨none, 0, 0, [], 1, rfl, Nums.nil _, ResExp.bad _ _ _, hb1⟩
end Go.Proofs.YtnbdbahfekneoaaGreat

namespace Go.Proofs.YtnbdbahfekneoaaGreat
open Go.RowKit

theorem bit_nat {es : List Int} {E : Nat} (hd : Digs 18446744073709551616 es) (hr : rightB es = true) (he : val 18446744073709551616 es = (E : Int)) (j : Nat) (hj : (j : Int) < 64 * (es.length : Int)) : bitB es (j : Int) = decide (E / 2 ^ j % 2 = 1) := by
  rw [bitB_in hr (by omega) (by omega)]
  have h := nat_bits hd he ((j : Int) / 64).toNat ((j : Int) % 64).toNat 1 (by omega)
  rw [show 64 * ((j : Int) / 64).toNat + ((j : Int) % 64).toNat = j by omega] at h
  have e1 : (2 : Int) ^ 1 = 2 := by decide
  have e2 : (2 : Nat) ^ 1 = 2 := by decide
  rw [e1, e2] at h
  rw [h]
  have : ((E / 2 ^ j % 2 : Nat) : Int) = 1 ↔ E / 2 ^ j % 2 = 1 := by omega
  simp only [this]

theorem half_dig (E j : Nat) : E / 2 ^ j = 2 * (E / 2 ^ (j + 1)) + E / 2 ^ j % 2 := by
  rw [Nat.pow_succ, ← Nat.div_div_eq_div_mul]; omega

theorem pow_sq {x n : Int} {k : Nat} : (x ^ k % n * (x ^ k % n)) % n = x ^ (2 * k) % n := by
  rw [← Int.mul_emod, ← Int.pow_add]; congr 2; omega

theorem pow_one_more {x n y : Int} {k : Nat} (h : y = x ^ k % n) : (y * x) % n = x ^ (k + 1) % n := by
  rw [h, Int.pow_succ, Int.mul_emod, Int.emod_emod, ← Int.mul_emod]

end Go.Proofs.YtnbdbahfekneoaaGreat

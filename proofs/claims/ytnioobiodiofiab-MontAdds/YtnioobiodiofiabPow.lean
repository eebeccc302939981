/-
  Bits and digits of a number's limbs; numbers in a ring's form; the contract of mont's digit.
-/
import Derived.Test.YtnioobiodiofiabMRef
import Derived.Test.YtnioobiodiofiabBits
import Derived.Test.YtnioobiodiofiabDiv64
namespace Go.Proofs.Ytnioobiodiofiab
open Go.RowKit

theorem val_ediv {zs : List Int} (hd : Digs 18446744073709551616 zs) : ∀ i : Nat, val 18446744073709551616 zs / 18446744073709551616 ^ i = zs.getD i 0 + 18446744073709551616 * val 18446744073709551616 (zs.drop (i + 1)) := by
  induction zs with
  | nil => intro i; simp [val]
  | cons x r ih =>
    intro i
    have hx := hd x (List.mem_cons_self ..)
    cases i with
    | zero => simp [val]
    | succ i =>
      have ih' := ih (fun y hy => hd y (List.mem_cons_of_mem _ hy)) i
      have e : (18446744073709551616 : Int) ^ (i + 1) = 18446744073709551616 * 18446744073709551616 ^ i := by rw [Int.pow_succ, Int.mul_comm]
      rw [val, e, ← Int.ediv_ediv_of_nonneg (by decide), Int.add_mul_ediv_left x _ (by decide), Int.ediv_eq_zero_of_lt hx.1 hx.2, Int.zero_add, ih']
      simp

theorem limb_bits {zs : List Int} (hd : Digs 18446744073709551616 zs) (i r s : Nat) (h : r + s ≤ 64) : (val 18446744073709551616 zs / 2 ^ (64 * i + r)) % 2 ^ s = (zs.getD i 0 / 2 ^ r) % 2 ^ s := by
  rw [Int.pow_add, ← pow64, ← Int.ediv_ediv_of_nonneg (Int.le_of_lt (pow_pos' (by decide) _)), val_ediv hd i]
  generalize val 18446744073709551616 (zs.drop (i + 1)) = t
  have e1 : (18446744073709551616 : Int) = 2 ^ r * (2 ^ s * 2 ^ (64 - r - s)) := by
    rw [← Int.pow_add, ← Int.pow_add]
    have : r + (s + (64 - r - s)) = 64 := by omega
    rw [this]; decide
  have e2 : 18446744073709551616 * t = 2 ^ r * (2 ^ s * (2 ^ (64 - r - s) * t)) := by
    rw [e1, Int.mul_assoc, Int.mul_assoc]
  have hp := pow_pos' (B := 2) (by decide) r
  rw [e2, Int.add_mul_ediv_left _ _ (by omega), Int.add_mul_emod_self_left]

theorem nat_bits {zs : List Int} {E : Nat} (hd : Digs 18446744073709551616 zs) (he : val 18446744073709551616 zs = (E : Int)) (i r s : Nat) (h : r + s ≤ 64) : (zs.getD i 0 / 2 ^ r) % 2 ^ s = ((E / 2 ^ (64 * i + r) % 2 ^ s : Nat) : Int) := by
  rw [← limb_bits hd i r s h, he]
  simp

theorem and_15 {x : Int} (h : 0 ≤ x ∧ x < 18446744073709551616) : bits .and .u64 x 15 = x % 16 := by
  obtain ⟨h0, h1⟩ := h
  go_bits2

set_option maxHeartbeats 400000 in
theorem mdigit_any (a : Option Addr) (la ca : Nat) (es : List Int) (E : Nat) (i : Int) (w : World) (h : Nums w a la ca es) (he : val 18446744073709551616 es = (E : Int)) (hi : 0 ≤ i ∧ i < 16 * (la : Int)) (h8 : la ≤ 64) :
    Calls Try.prog 60 #[.slice a la ca, .int .i64 i] w fun e w' => e = .returned (.int .u64 ((E / 16 ^ i.toNat % 16 : Nat) : Int)) ∧ w' = w := by
  have hq : i / 16 < (la : Int) := by omega
  have hq0 : 0 ≤ i / 16 := by omega
  obtain ⟨b, off, rfl, hc⟩ := h.cells (by omega)
  have hcl := hc (i / 16).toNat (by omega)
  have hxw := h.digs.getD (by decide) (i / 16).toNat
  have hb := nat_bits h.digs he (i / 16).toNat (i % 16 * 4).toNat 4 (by omega)
  have e1 : (2 : Nat) ^ (64 * (i / 16).toNat + (i % 16 * 4).toNat) = 16 ^ i.toNat := by
    rw [show (16 : Nat) = 2 ^ 4 by decide, ← Nat.pow_mul]; congr 1; omega
  rw [e1] at hb
  obtain ⟨x, hx⟩ : ∃ x, x = es.getD (i / 16).toNat 0 := ⟨_, rfl⟩
  rw [← hx] at hcl hxw hb
  have HB : Hid (x / 2 ^ (i % 16 * 4).toNat % 2 ^ 4 = ((E / 16 ^ i.toNat % 16 : Nat) : Int)) := hb
  clear hx hc e1 hb he
  go_enter Try.func60, Try.ntmps60
  go_wp2_with fail
  go_ret
  have hp : (0 : Int) < 2 ^ (i % 16 * 4).toNat := pow_pos' (by decide) _
  have hq1 : 0 ≤ x / 2 ^ (i % 16 * 4).toNat := Int.ediv_nonneg hxw.1 (Int.le_of_lt hp)
  have hq2 : x / 2 ^ (i % 16 * 4).toNat ≤ x := Int.ediv_le_self _ hxw.1
  exact ⟨ret_int (by rw [and_15 ⟨hq1, by omega⟩]; exact HB.out), rfl⟩

/-- The limbs are v in the ring's form. -/
def MF (zs : List Int) (v : Int) (ls : List Int) : Prop := belowB ls zs = true ∧ val 18446744073709551616 ls % val 18446744073709551616 zs = (v * 18446744073709551616 ^ zs.length) % val 18446744073709551616 zs

/-- The value is a slice whose limbs are v in the ring's form. -/
def SV (w : World) (zs : List Int) (v : Int) (x : Value) : Prop := ∃ a n c ls, x = .slice a n c ∧ Nums w a n c ls ∧ MF zs v ls
theorem SV.below {w w' : World} {zs : List Int} {v : Int} {x : Value} (h : SV w zs v x) (hb : Below w.heap.size w w') : SV w' zs v x := by
  obtain ⟨a, n, c, ls, e, hn, hm⟩ := h
  exact ⟨a, n, c, ls, e, hn.below hb, hm⟩

theorem mpMF_any (p : Option Addr) (zs : List Int) (f : Int) (qs : List Int) (a b : Option Addr) (la ca lb cb : Nat) (xs ys : List Int) (u v : Int) (w : World) (h : RingAt w p zs f qs) (hR : RingOk zs f qs) (ha : Nums w a la ca xs) (hb : Nums w b lb cb ys) (hx : MF zs u xs) (hy : MF zs v ys) :
    Calls Try.prog 32 #[.pointer p, .slice a la ca, .slice b lb cb] w fun e w' => ∃ a' n c' ls, e = .returned (.slice a' n c') ∧ Nums w' a' n c' ls ∧ MF zs (u * v) ls ∧ Below w.heap.size w w' := by
  have hzd : Digs 18446744073709551616 zs := by obtain ⟨g, na, n, nc, q, m, cq, -, -, -, -, hn, -⟩ := h; exact hn.digs
  refine (mprod_any p zs f qs a b la ca lb cb xs ys w h hR ha hb hx.1 hy.1).mono ?_
  rintro e w' ⟨a', n, c', ls, rfl, hl, hred, hb'⟩
  exact ⟨a', n, c', ls, rfl, hl, ⟨hred.belowB hR.modOk hzd, red_prod hR.modOk hred hx.2 hy.2⟩, hb'⟩

theorem Nums.setCell {w : World} {a : Option Addr} {n c : Nat} {zs : List Int} (h : Nums w a n c zs) {p : Addr} {sa : Option Addr} {sn sc : Nat} (hp : w.cell? p = some (.slice sa sn sc)) (v : Value) : Nums (w.setCell p v) a n c zs := by
  refine ⟨h.hlen, h.hcap, h.hmax, fun h0 => ?_, h.word⟩
  obtain ⟨b, off, e, hc⟩ := h.cells h0
  refine ⟨b, off, e, fun i hi => ?_⟩
  rw [World.cell?_setCell_other]
  · exact hc i hi
  · intro e2
    have := hc i hi
    rw [← e2, hp] at this
    cases this

theorem SV.setCell {w : World} {zs : List Int} {v : Int} {x : Value} (h : SV w zs v x) {p : Addr} {sa : Option Addr} {sn sc : Nat} (hp : w.cell? p = some (.slice sa sn sc)) (y : Value) : SV (w.setCell p y) zs v x := by
  obtain ⟨a, n, c, ls, e, hn, hm⟩ := h
  exact ⟨a, n, c, ls, e, hn.setCell hp y, hm⟩

theorem SV.setRow {w : World} {zs : List Int} {v : Int} {x : Value} (h : SV w zs v x) {g : Nat} {cs : Array Value} {t : TypeId} {fr : Nat × Nat} (hg : w.heap[g]? = some (.cells cs t fr)) (hs : ∀ (j : Nat) (y : Value), cs[j]? = some y → ∃ sa sn sc, y = Value.slice sa sn sc) (ds : Array Value) : SV (w.setRow g ds) zs v x := by
  obtain ⟨a, n, c, ls, e, hn, hm⟩ := h
  refine ⟨a, n, c, ls, e, ⟨hn.hlen, hn.hcap, hn.hmax, fun h0 => ?_, hn.word⟩, hm⟩
  obtain ⟨b, off, e, hc⟩ := hn.cells h0
  refine ⟨b, off, e, fun i hi => ?_⟩
  rw [cell_setRow_other]
  · exact hc i hi
  · intro e2
    have h1 := hc i hi
    simp only at e2
    subst e2
    rw [cell_of_row w b (off + i) cs t fr hg] at h1
    obtain ⟨sa, sn, sc, e3⟩ := hs _ _ h1
    cases e3

theorem below_setRow {w w' : World} {B g : Nat} (h : Below B w w') (hg : B ≤ g) (cs : Array Value) : Below B w (w'.setRow g cs) :=
  h.trans ⟨rfl, rfl, rfl, by simp, fun k hk => setRow_other _ _ _ _ (by omega)⟩

theorem Try.infoArr : (Try.prog.info? 78).map (·.size) = some 16 := by kernel_rfl

/-- Block g is the sixteen slices. -/
def Arr (w : World) (g : Nat) (cur : Array Value) : Prop := w.heap[g]? = some (.cells cur 78 (0, 0)) ∧ cur.size = 16 ∧ ∀ j, j < 16 → ∃ sa sn sc, cur[j]? = some (.slice sa sn sc)

theorem Arr.lt {w : World} {g : Nat} {cur : Array Value} (h : Arr w g cur) : g < w.heap.size := (Array.getElem?_eq_some_iff.1 h.1).1
theorem Arr.below {w w' : World} {g B : Nat} {cur : Array Value} (h : Arr w g cur) (hb : Below B w w') (hg : g < B) : Arr w' g cur := ⟨(hb.block g hg).trans h.1, h.2⟩
theorem Arr.cell {w : World} {g : Nat} {cur : Array Value} (h : Arr w g cur) (j : Nat) : w.cell? ⟨g, j, none⟩ = cur[j]? := cell_of_row w g j _ _ _ h.1
theorem Arr.frozen {w : World} {g : Nat} {cur : Array Value} (h : Arr w g cur) (j : Nat) : w.frozen? ⟨g, j, none⟩ = false := frozen_of_row w g j _ _ h.1
theorem Arr.set {w : World} {g : Nat} {cur : Array Value} (h : Arr w g cur) (j : Nat) (sa : Option Addr) (sn sc : Nat) : Arr (w.setCell ⟨g, j, none⟩ (.slice sa sn sc)) g (cur.setIfInBounds j (.slice sa sn sc)) := by
  refine ⟨heap_setCell_same w g j _ _ _ h.1, by simp [h.2.1], fun i hi => ?_⟩
  by_cases e : j = i
  · subst e
    exact ⟨sa, sn, sc, by rw [Array.getElem?_setIfInBounds_self_of_lt (by rw [h.2.1]; exact hi)]⟩
  · rw [Array.getElem?_setIfInBounds_ne e]; exact h.2.2 i hi
theorem Arr.other {w : World} {g k j : Nat} {cur : Array Value} (h : Arr w g cur) (hne : g ≠ k) (v : Value) : Arr (w.setCell ⟨k, j, none⟩ v) g cur := ⟨by rw [heap_setCell_other _ _ _ _ hne]; exact h.1, h.2⟩
theorem Arr.slices {w : World} {g : Nat} {cur : Array Value} (h : Arr w g cur) : ∀ (j : Nat) (y : Value), cur[j]? = some y → ∃ sa sn sc, y = Value.slice sa sn sc := by
  intro j y hy
  have hj : j < 16 := by have := (Array.getElem?_eq_some_iff.1 hy).1; have := h.2.1; omega
  obtain ⟨sa, sn, sc, e⟩ := h.2.2 j hj
  rw [e] at hy
  exact ⟨sa, sn, sc, by cases hy; rfl⟩
theorem Arr.one {w : World} {g : Nat} {cur : Array Value} (h : Arr w g cur) : cur.all (·.oneCell') = true := by
  rw [Array.all_eq_true_iff_forall_mem]
  intro x hx
  obtain ⟨j, hj, rfl⟩ := Array.getElem_of_mem hx
  obtain ⟨sa, sn, sc, e⟩ := h.slices j cur[j] (by simp [hj])
  rw [e]; rfl
end Go.Proofs.Ytnioobiodiofiab

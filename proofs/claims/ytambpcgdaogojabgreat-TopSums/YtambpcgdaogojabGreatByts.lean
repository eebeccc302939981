/-
  Slices of bytes; the contract of nat.Bytes.
-/
import Derived.Test.YtambpcgdaogojabGreatBitMath
namespace Go.Proofs.YtambpcgdaogojabGreat
open Go.RowKit

/-- The slice (a, len, cap) of bytes reads as the list bs. -/
structure Byts (w : World) (a : Option Addr) (len cap : Nat) (bs : List Int) : Prop where
  hlen : bs.length = len
  hcap : len ≤ cap
  hmax : cap ≤ maxLen
  cells : 0 < len → ∃ b off, a = some ⟨b, off, none⟩ ∧ ∀ i, i < len → w.cell? ⟨b, off + i, none⟩ = some (.int .u8 (bs.getD i 0))
  word : ∀ x, x ∈ bs → 0 ≤ x ∧ x < 256

theorem Byts.below {w w' : World} {a : Option Addr} {len cap : Nat} {zs : List Int} (h : Byts w a len cap zs) (hb : Below w.heap.size w w') : Byts w' a len cap zs := by
  refine ⟨h.hlen, h.hcap, h.hmax, fun hp => ?_, h.word⟩
  obtain ⟨b, off, ha, hc⟩ := h.cells hp
  exact ⟨b, off, ha, fun i hi => (hb.cell (p := ⟨b, off + i, none⟩) (World.block_lt_of_cell? w _ (hc i hi))).trans (hc i hi)⟩

theorem byte_of_wf {x : Int} (h : (Lit.int .u8 x).wf = true) : 0 ≤ x ∧ x < 256 := by
  simp [Lit.wf, IntKind.min, IntKind.max, IntKind.signed, IntKind.bits] at h
  exact ⟨by omega, by omega⟩

theorem Byts.of_row {w : World} {a : Option Addr} {len cap : Nat} {zs : List Int} (h : IsRow .u8 w a len cap zs) : Byts w a len cap (zs.take len) := by
  rcases h with ⟨rfl, rfl, rfl, rfl⟩ | ⟨x, rfl, hl, hm, hz, hcell, hwf⟩
  · exact ⟨rfl, Nat.le_refl _, Nat.zero_le _, fun h => absurd h (Nat.lt_irrefl _), fun x hx => by simp at hx⟩
  · refine ⟨by simp; omega, hl, hm, fun hp => ?_, fun y hy => byte_of_wf (hwf y (List.mem_of_mem_take hy))⟩
    obtain ⟨b, off, spot⟩ := x
    have hc := hcell 0 (by omega)
    have hspot : spot = none := by simpa [Addr.add] using World.cell?_spot hc
    subst hspot
    refine ⟨b, off, rfl, fun i hi => ?_⟩
    have hi' := hcell i (by omega)
    rw [show (zs.take len).getD i 0 = zs.getD i 0 by simp [List.getD, hi]]
    rw [Addr.add_lit] at hi'
    exact hi'

theorem Byts.nil (w : World) : Byts w none 0 0 [] := ⟨rfl, Nat.le_refl _, Nat.zero_le _, fun h => absurd h (Nat.lt_irrefl _), fun x hx => by cases hx⟩
theorem Byts.digs {w : World} {a : Option Addr} {len cap : Nat} {zs : List Int} (h : Byts w a len cap zs) : Digs 256 zs := h.word

/-- Block g holds these bytes at its head, and may be written. -/
def BBlk (w : World) (g : Nat) (L : List Int) : Prop := ∃ cur : Array Value, w.heap[g]? = some (.cells cur 5 (0, 0)) ∧ cur.toList.take L.length = L.map (Value.int .u8)

theorem BBlk.cell {w : World} {g : Nat} {L : List Int} (h : BBlk w g L) {j : Nat} (hj : j < L.length) : w.cell? ⟨g, j, none⟩ = some (.int .u8 (L.getD j 0)) := by
  obtain ⟨cur, h1, h2⟩ := h
  rw [cell_of_row w g j _ _ _ h1]
  have h3 : (cur.toList.take L.length)[j]? = (L.map (Value.int .u8))[j]? := by rw [h2]
  rw [List.getElem?_take, if_pos hj] at h3
  rw [← Array.getElem?_toList, h3]
  simp [List.getD, hj]
theorem BBlk.frozen {w : World} {g : Nat} {L : List Int} (h : BBlk w g L) (j : Nat) : w.frozen? ⟨g, j, none⟩ = false := by
  obtain ⟨cur, h1, _⟩ := h
  exact frozen_of_row w g j _ _ h1
theorem BBlk.lt {w : World} {g : Nat} {L : List Int} (h : BBlk w g L) : g < w.heap.size := by
  obtain ⟨cur, h1, _⟩ := h
  exact (Array.getElem?_eq_some_iff.1 h1).1
theorem BBlk.set {w : World} {g : Nat} {L : List Int} (h : BBlk w g L) (j : Nat) (x : Int) : BBlk (w.setCell ⟨g, j, none⟩ (.int .u8 x)) g (L.set j x) := by
  obtain ⟨cur, h1, h2⟩ := h
  refine ⟨cur.setIfInBounds j (.int .u8 x), heap_setCell_same w g j _ _ (.int .u8 x) h1, ?_⟩
  rw [Array.toList_setIfInBounds, List.length_set, List.take_set, h2, List.map_set]
theorem BBlk.byts {w : World} {g n : Nat} {L : List Int} (h : BBlk w g L) (hd : Digs 256 L) (hl : L.length = n) (hn : n ≤ 1000000) : Byts w (some ⟨g, 0, none⟩) n n L := by
  subst hl
  refine ⟨rfl, Nat.le_refl _, by unfold maxLen; omega, fun _ => ⟨g, 0, rfl, fun i hi => ?_⟩, hd⟩
  rw [Nat.zero_add]; exact h.cell hi

theorem Tryz.infoB : (Tryz.prog.info? 5).map (fun i => (i.zero, i.size, i.bytes)) = some (some (.int .u8 0), 1, 1) := by kernel_rfl

theorem wpList_mkB (w : World) {ops : Array Oper} {rest : List Oper} {o : Oper} {a : Act} {Q : Exit → Act → World → Prop}
    (hg : o.guard = none) (l c : Operand) (t : TypeId) (hop : o.op = Op.makeSlice t l c) (ht : Tryz.prog.underlying t = some (.slice 5))
    (kl kc : IntKind) (L C : Int) (n : Nat) (hl : a.eval l = .int kl L) (hc : a.eval c = .int kc C) (hL : L = (n : Int)) (hC : C = (n : Int)) (hn : n ≤ 1000000)
    (hK : ∀ w', BBlk w' w.heap.size (noughts n) → Below w.heap.size w w' → w'.heap.size = w.heap.size + 1 → wpList Tryz.prog ops Q rest (a.put o.dst (.slice (some ⟨w.heap.size, 0, none⟩) n n)) w') :
    wpList Tryz.prog ops Q (o :: rest) a w := by
  obtain ⟨i0, hi, hz0, hz1, hz2⟩ := info_parts Tryz.infoB
  refine wpList_plain hg fun K hK' => ?_
  subst hL
  subst hC
  have hrun := run_make (P := Tryz.prog) w t 5 i0 (.int .u8 0) ht hi hz0 kl kc n n (by omega) (Int.le_refl _) (by rw [hz2]; omega) (by omega)
  simp only [Int.toNat_natCast] at hrun
  unfold Oper.wp
  simp [execOp, hop, hl, hc, hrun, Result.andThen]
  refine hK' _ _ (hK _ ?_ ((Below.refl _ _).alloc (Nat.le_refl _) _) (by simp))
  have e : (madeCells (Value.int .u8 0).cells (n * i0.size)) = ((List.replicate n (0 : Int)).map (Value.int .u8)).toArray := by
    apply Array.toList_inj.1
    have := toList_madeCells_one (.int .u8 0) n
    rw [hz1, Nat.mul_one]
    simpa [Value.cells] using this
  refine ⟨_, heap_alloc_new w _, ?_⟩
  rw [e]
  simp [noughts]

/-- What is told of a number's bytes, the highest first. -/
def ResBytes (zs bs : List Int) : Prop := if rightB zs = true then Digs 256 bs ∧ Top bs.reverse ∧ val 256 bs.reverse = val 18446744073709551616 zs else bs = []

theorem ResBytes.unique {zs bs cs : List Int} (h : ResBytes zs bs) (h' : ResBytes zs cs) : bs = cs := by
  unfold ResBytes at h h'
  split at h
  · rename_i hc
    rw [if_pos hc] at h'
    have := val_inj (B := 256) (by decide) (zs := bs.reverse) (ys := cs.reverse) (fun x hx => h.1 x (List.mem_reverse.1 hx)) (fun x hx => h'.1 x (List.mem_reverse.1 hx)) h.2.1 h'.2.1 (h.2.2.trans h'.2.2.symm)
    have e2 := congrArg List.reverse this
    simpa using e2
  · rename_i hc
    rw [if_neg hc] at h'
    rw [h, h']

theorem vs_digits (E n : Nat) : vs 256 (fun j => ((E / 256 ^ j % 256 : Nat) : Int)) n = ((E % 256 ^ n : Nat) : Int) := by
  induction n with
  | zero => simp [vs, Nat.mod_one]
  | succ n ih =>
    simp only [vs]
    rw [ih, Nat.pow_succ, Nat.mod_mul]
    simp

theorem getD_reverse {L : List Int} {n j : Nat} (hl : L.length = n) (hj : j < n) : L.reverse.getD j 0 = L.getD (n - 1 - j) 0 := by
  subst hl
  simp [List.getD, List.getElem?_reverse hj]

theorem bits_ge {es : List Int} {E : Nat} (hd : Digs 18446744073709551616 es) (hr : rightB es = true) (he : val 18446744073709551616 es = (E : Int)) (h0 : es.length ≠ 0) : 0 < bitsZ es ∧ 2 ^ ((bitsZ es).toNat - 1) ≤ E := by
  obtain ⟨s, hs, e1, h1, -⟩ := bits_norm hd hr h0
  refine ⟨by omega, ?_⟩
  rw [he, pow64] at h1
  have e2 : (2 : Int) ^ (64 * (es.length - 1)) * 9223372036854775808 = 2 ^ ((bitsZ es).toNat - 1) * 2 ^ s := by
    rw [show (9223372036854775808 : Int) = 2 ^ 63 by decide, ← Int.pow_add, ← Int.pow_add]; congr 1; omega
  rw [e2] at h1
  have h3 := Int.le_of_mul_le_mul_right h1 (pow_pos' (by decide) s)
  have h4 : ((2 ^ ((bitsZ es).toNat - 1) : Nat) : Int) = (2 : Int) ^ ((bitsZ es).toNat - 1) := by simp
  rw [← h4] at h3
  omega

/-- Bytes that are a number's digits, place by place, are told of it. -/
theorem bytes_end {zs M : List Int} {E n : Nat} (hd : Digs 18446744073709551616 zs) (hr : rightB zs = true) (he : val 18446744073709551616 zs = (E : Int)) (hn : (n : Int) = (bitsZ zs + 7) / 8) (hl : M.length = n) (hM : ∀ j, j < n → M.getD (n - 1 - j) 0 = ((E / 256 ^ j % 256 : Nat) : Int)) : ResBytes zs M := by
  have hb := bits_lt hd hr he
  have hg : ∀ j, j < n → M.reverse.getD j 0 = ((E / 256 ^ j % 256 : Nat) : Int) := fun j hj => by rw [getD_reverse hl hj]; exact hM j hj
  have hE : E < 256 ^ n := by
    have e : (256 : Nat) ^ n = 2 ^ (8 * n) := by rw [Nat.pow_mul]
    rw [e]
    exact Nat.lt_of_lt_of_le hb.2.2 (Nat.pow_le_pow_right (by omega) (by omega))
  unfold ResBytes
  rw [if_pos hr]
  refine ⟨fun x hx => ?_, ?_, ?_⟩
  · obtain ⟨i, hi, rfl⟩ := List.getElem_of_mem hx
    have h1 := hM (n - 1 - i) (by omega)
    rw [show n - 1 - (n - 1 - i) = i by omega] at h1
    have h2 : M.getD i 0 = M[i] := by simp [List.getD, hi]
    rw [← h2, h1]
    have := Nat.mod_lt (E / 256 ^ (n - 1 - i)) (show 0 < 256 by decide)
    omega
  · by_cases h0 : zs.length = 0
    · have e : zs = [] := List.eq_nil_of_length_eq_zero h0
      subst e
      have : bitsZ [] = 0 := by simp [bitsZ]
      rw [this] at hn
      have : n = 0 := by omega
      left
      rw [List.reverse_eq_nil_iff]
      exact List.eq_nil_of_length_eq_zero (by omega)
    · right
      have hge := bits_ge hd hr he h0
      have hn0 : 0 < n := by omega
      rw [List.length_reverse, hl, hg (n - 1) (by omega)]
      have e1 : 256 ^ (n - 1) ≤ E := by
        have e : (256 : Nat) ^ (n - 1) = 2 ^ (8 * (n - 1)) := by rw [Nat.pow_mul]
        rw [e]
        exact Nat.le_trans (Nat.pow_le_pow_right (by omega) (by omega)) hge.2
      have e2 : E / 256 ^ (n - 1) < 256 := by
        rw [Nat.div_lt_iff_lt_mul (Nat.pow_pos (by decide)), Nat.mul_comm, ← Nat.pow_succ, show (n - 1).succ = n by omega]
        exact hE
      have e3 : 1 ≤ E / 256 ^ (n - 1) := (Nat.le_div_iff_mul_le (Nat.pow_pos (by decide))).2 (by omega)
      rw [Nat.mod_eq_of_lt e2]
      omega
  · rw [← vs_all 256 M.reverse (n := n) (by simp [hl]), vs_congr (g := fun j => ((E / 256 ^ j % 256 : Nat) : Int)) hg, vs_digits, Nat.mod_eq_of_lt hE, he]

theorem wrap8 (z : Int) : IntKind.u8.wrap z = z % 256 := by simp [IntKind.wrap, IntKind.signed, IntKind.bits]

end Go.Proofs.YtambpcgdaogojabGreat

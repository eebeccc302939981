/-
  Bits and digits of a number's limbs (without a ring).
  Slices of bytes; the contract of nat.Bytes.
  Draws from bytes, by definition: what is told of them, and what is left.
-/
import Derived.Test.YtchmlfjjgehbkaaShift
import Derived.Test.YtchmlfjjgehbkaaNatE
import Derived.Test.YtchmlfjjgehbkaaNatC
import Derived.Test.YtchmlfjjgehbkaaNatD
namespace Go.Proofs.Ytchmlfjjgehbkaa
open Go.RowKit

theorem wrap64 (z : Int) : IntKind.u64.wrap z = z % 18446744073709551616 := by simp [IntKind.wrap, IntKind.signed, IntKind.bits]

theorem val_ediv {zs : List Int} (hd : Digs 18446744073709551616 zs) : ∀ i : Nat, val 18446744073709551616 zs / 18446744073709551616 ^ i = zs.getD i 0 + 18446744073709551616 * val 18446744073709551616 (zs.drop (i + 1)) := by
  induction zs with
  | nil => intro i; simp [val]
  | cons x r ih =>
    intro i
    have hx := hd x (List.mem_cons_self ..)
    cases i with
    | zero => simp [val]
    | succ i =>
      have ih' := ih (fun y hy => hd y (List.mem_cons_of_mem _ hy)) i
      have e : (18446744073709551616 : Int) ^ (i + 1) = 18446744073709551616 * 18446744073709551616 ^ i := by rw [Int.pow_succ, Int.mul_comm]
      rw [val, e, ← Int.ediv_ediv_of_nonneg (by decide), Int.add_mul_ediv_left x _ (by decide), Int.ediv_eq_zero_of_lt hx.1 hx.2, Int.zero_add, ih']
      simp

theorem limb_bits {zs : List Int} (hd : Digs 18446744073709551616 zs) (i r s : Nat) (h : r + s ≤ 64) : (val 18446744073709551616 zs / 2 ^ (64 * i + r)) % 2 ^ s = (zs.getD i 0 / 2 ^ r) % 2 ^ s := by
  rw [Int.pow_add, ← pow64, ← Int.ediv_ediv_of_nonneg (Int.le_of_lt (pow_pos' (by decide) _)), val_ediv hd i]
  generalize val 18446744073709551616 (zs.drop (i + 1)) = t
  have e1 : (18446744073709551616 : Int) = 2 ^ r * (2 ^ s * 2 ^ (64 - r - s)) := by
    rw [← Int.pow_add, ← Int.pow_add]
    have : r + (s + (64 - r - s)) = 64 := by omega
    rw [this]; decide
  have e2 : 18446744073709551616 * t = 2 ^ r * (2 ^ s * (2 ^ (64 - r - s) * t)) := by
    rw [e1, Int.mul_assoc, Int.mul_assoc]
  have hp := pow_pos' (B := 2) (by decide) r
  rw [e2, Int.add_mul_ediv_left _ _ (by omega), Int.add_mul_emod_self_left]

theorem nat_bits {zs : List Int} {E : Nat} (hd : Digs 18446744073709551616 zs) (he : val 18446744073709551616 zs = (E : Int)) (i r s : Nat) (h : r + s ≤ 64) : (zs.getD i 0 / 2 ^ r) % 2 ^ s = ((E / 2 ^ (64 * i + r) % 2 ^ s : Nat) : Int) := by
  rw [← limb_bits hd i r s h, he]
  simp

theorem bits_lt {es : List Int} {E : Nat} (hd : Digs 18446744073709551616 es) (hr : rightB es = true) (he : val 18446744073709551616 es = (E : Int)) : 0 ≤ bitsZ es ∧ bitsZ es ≤ 64 * (es.length : Int) ∧ E < 2 ^ (bitsZ es).toNat := by
  by_cases h0 : es.length = 0
  · have e : es = [] := List.eq_nil_of_length_eq_zero h0
    subst e
    have : bitsZ [] = 0 := by simp [bitsZ]
    rw [this]
    simp only [val] at he
    refine ⟨by decide, by simp, ?_⟩
    show E < 1
    omega
  · obtain ⟨s, hs, e1, -, h2⟩ := bits_norm hd hr h0
    refine ⟨by omega, by omega, ?_⟩
    rw [he, pow64] at h2
    have e2 : (2 : Int) ^ (64 * es.length) = 2 ^ (bitsZ es).toNat * 2 ^ s := by rw [← Int.pow_add]; congr 1; omega
    rw [e2] at h2
    have h3 := Int.lt_of_mul_lt_mul_right h2 (Int.le_of_lt (pow_pos' (by decide) s))
    have h4 : ((2 ^ (bitsZ es).toNat : Nat) : Int) = (2 : Int) ^ (bitsZ es).toNat := by simp
    rw [← h4] at h3
    omega

end Go.Proofs.Ytchmlfjjgehbkaa

namespace Go.Proofs.Ytchmlfjjgehbkaa
open Go.RowKit

/-- The slice (a, len, cap) of bytes reads as the list bs. -/
structure Byts (w : World) (a : Option Addr) (len cap : Nat) (bs : List Int) : Prop where
  hlen : bs.length = len
  hcap : len ≤ cap
  hmax : cap ≤ maxLen
  cells : 0 < len → ∃ b off, a = some ⟨b, off, none⟩ ∧ ∀ i, i < len → w.cell? ⟨b, off + i, none⟩ = some (.int .u8 (bs.getD i 0))
  word : ∀ x, x ∈ bs → 0 ≤ x ∧ x < 256

theorem Byts.below {w w' : World} {a : Option Addr} {len cap : Nat} {zs : List Int} (h : Byts w a len cap zs) (hb : Below w.heap.size w w') : Byts w' a len cap zs := by
  refine ⟨h.hlen, h.hcap, h.hmax, fun hp => ?_, h.word⟩
  obtain ⟨b, off, ha, hc⟩ := h.cells hp
  exact ⟨b, off, ha, fun i hi => (hb.cell (p := ⟨b, off + i, none⟩) (World.block_lt_of_cell? w _ (hc i hi))).trans (hc i hi)⟩

theorem byte_of_wf {x : Int} (h : (Lit.int .u8 x).wf = true) : 0 ≤ x ∧ x < 256 := by
  simp [Lit.wf, IntKind.min, IntKind.max, IntKind.signed, IntKind.bits] at h
  exact ⟨by omega, by omega⟩

theorem Byts.of_row {w : World} {a : Option Addr} {len cap : Nat} {zs : List Int} (h : IsRow .u8 w a len cap zs) : Byts w a len cap (zs.take len) := by
  rcases h with ⟨rfl, rfl, rfl, rfl⟩ | ⟨x, rfl, hl, hm, hz, hcell, hwf⟩
  · exact ⟨rfl, Nat.le_refl _, Nat.zero_le _, fun h => absurd h (Nat.lt_irrefl _), fun x hx => by simp at hx⟩
  · refine ⟨by simp; omega, hl, hm, fun hp => ?_, fun y hy => byte_of_wf (hwf y (List.mem_of_mem_take hy))⟩
    obtain ⟨b, off, spot⟩ := x
    have hc := hcell 0 (by omega)
    have hspot : spot = none := by simpa [Addr.add] using World.cell?_spot hc
    subst hspot
    refine ⟨b, off, rfl, fun i hi => ?_⟩
    have hi' := hcell i (by omega)
    rw [show (zs.take len).getD i 0 = zs.getD i 0 by simp [List.getD, hi]]
    rw [Addr.add_lit] at hi'
    exact hi'

theorem Byts.nil (w : World) : Byts w none 0 0 [] := ⟨rfl, Nat.le_refl _, Nat.zero_le _, fun h => absurd h (Nat.lt_irrefl _), fun x hx => by cases hx⟩
theorem Byts.digs {w : World} {a : Option Addr} {len cap : Nat} {zs : List Int} (h : Byts w a len cap zs) : Digs 256 zs := h.word

/-- Block g holds these bytes at its head, and may be written. -/
def BBlk (w : World) (g : Nat) (L : List Int) : Prop := ∃ cur : Array Value, w.heap[g]? = some (.cells cur 5 (0, 0)) ∧ cur.toList.take L.length = L.map (Value.int .u8)

theorem BBlk.cell {w : World} {g : Nat} {L : List Int} (h : BBlk w g L) {j : Nat} (hj : j < L.length) : w.cell? ⟨g, j, none⟩ = some (.int .u8 (L.getD j 0)) := by
  obtain ⟨cur, h1, h2⟩ := h
  rw [cell_of_row w g j _ _ _ h1]
  have h3 : (cur.toList.take L.length)[j]? = (L.map (Value.int .u8))[j]? := by rw [h2]
  rw [List.getElem?_take, if_pos hj] at h3
  rw [← Array.getElem?_toList, h3]
  simp [List.getD, hj]
theorem BBlk.frozen {w : World} {g : Nat} {L : List Int} (h : BBlk w g L) (j : Nat) : w.frozen? ⟨g, j, none⟩ = false := by
  obtain ⟨cur, h1, _⟩ := h
  exact frozen_of_row w g j _ _ h1
theorem BBlk.lt {w : World} {g : Nat} {L : List Int} (h : BBlk w g L) : g < w.heap.size := by
  obtain ⟨cur, h1, _⟩ := h
  exact (Array.getElem?_eq_some_iff.1 h1).1
theorem BBlk.set {w : World} {g : Nat} {L : List Int} (h : BBlk w g L) (j : Nat) (x : Int) : BBlk (w.setCell ⟨g, j, none⟩ (.int .u8 x)) g (L.set j x) := by
  obtain ⟨cur, h1, h2⟩ := h
  refine ⟨cur.setIfInBounds j (.int .u8 x), heap_setCell_same w g j _ _ (.int .u8 x) h1, ?_⟩
  rw [Array.toList_setIfInBounds, List.length_set, List.take_set, h2, List.map_set]
theorem BBlk.byts {w : World} {g n : Nat} {L : List Int} (h : BBlk w g L) (hd : Digs 256 L) (hl : L.length = n) (hn : n ≤ 1000000) : Byts w (some ⟨g, 0, none⟩) n n L := by
  subst hl
  refine ⟨rfl, Nat.le_refl _, by unfold maxLen; omega, fun _ => ⟨g, 0, rfl, fun i hi => ?_⟩, hd⟩
  rw [Nat.zero_add]; exact h.cell hi

theorem Try.infoB : (Try.prog.info? 5).map (fun i => (i.zero, i.size, i.bytes)) = some (some (.int .u8 0), 1, 1) := by kernel_rfl

theorem wpList_mkB (w : World) {ops : Array Oper} {rest : List Oper} {o : Oper} {a : Act} {Q : Exit → Act → World → Prop}
    (hg : o.guard = none) (l c : Operand) (t : TypeId) (hop : o.op = Op.makeSlice t l c) (ht : Try.prog.underlying t = some (.slice 5))
    (kl kc : IntKind) (L C : Int) (n : Nat) (hl : a.eval l = .int kl L) (hc : a.eval c = .int kc C) (hL : L = (n : Int)) (hC : C = (n : Int)) (hn : n ≤ 1000000)
    (hK : ∀ w', BBlk w' w.heap.size (noughts n) → Below w.heap.size w w' → w'.heap.size = w.heap.size + 1 → wpList Try.prog ops Q rest (a.put o.dst (.slice (some ⟨w.heap.size, 0, none⟩) n n)) w') :
    wpList Try.prog ops Q (o :: rest) a w := by
  obtain ⟨i0, hi, hz0, hz1, hz2⟩ := info_parts Try.infoB
  refine wpList_plain hg fun K hK' => ?_
  subst hL
  subst hC
  have hrun := run_make (P := Try.prog) w t 5 i0 (.int .u8 0) ht hi hz0 kl kc n n (by omega) (Int.le_refl _) (by rw [hz2]; omega) (by omega)
  simp only [Int.toNat_natCast] at hrun
  unfold Oper.wp
  simp [execOp, hop, hl, hc, hrun, Result.andThen]
  refine hK' _ _ (hK _ ?_ ((Below.refl _ _).alloc (Nat.le_refl _) _) (by simp))
  have e : (madeCells (Value.int .u8 0).cells (n * i0.size)) = ((List.replicate n (0 : Int)).map (Value.int .u8)).toArray := by
    apply Array.toList_inj.1
    have := toList_madeCells_one (.int .u8 0) n
    rw [hz1, Nat.mul_one]
    simpa [Value.cells] using this
  refine ⟨_, heap_alloc_new w _, ?_⟩
  rw [e]
  simp [noughts]

/-- What is told of a number's bytes, the highest first. -/
def ResBytes (zs bs : List Int) : Prop := if rightB zs = true then Digs 256 bs ∧ Top bs.reverse ∧ val 256 bs.reverse = val 18446744073709551616 zs else bs = []

theorem ResBytes.unique {zs bs cs : List Int} (h : ResBytes zs bs) (h' : ResBytes zs cs) : bs = cs := by
  unfold ResBytes at h h'
  split at h
  · rename_i hc
    rw [if_pos hc] at h'
    have := val_inj (B := 256) (by decide) (zs := bs.reverse) (ys := cs.reverse) (fun x hx => h.1 x (List.mem_reverse.1 hx)) (fun x hx => h'.1 x (List.mem_reverse.1 hx)) h.2.1 h'.2.1 (h.2.2.trans h'.2.2.symm)
    have e2 := congrArg List.reverse this
    simpa using e2
  · rename_i hc
    rw [if_neg hc] at h'
    rw [h, h']

theorem vs_digits (E n : Nat) : vs 256 (fun j => ((E / 256 ^ j % 256 : Nat) : Int)) n = ((E % 256 ^ n : Nat) : Int) := by
  induction n with
  | zero => simp [vs, Nat.mod_one]
  | succ n ih =>
    simp only [vs]
    rw [ih, Nat.pow_succ, Nat.mod_mul]
    simp

theorem getD_reverse {L : List Int} {n j : Nat} (hl : L.length = n) (hj : j < n) : L.reverse.getD j 0 = L.getD (n - 1 - j) 0 := by
  subst hl
  simp [List.getD, List.getElem?_reverse hj]

theorem bits_ge {es : List Int} {E : Nat} (hd : Digs 18446744073709551616 es) (hr : rightB es = true) (he : val 18446744073709551616 es = (E : Int)) (h0 : es.length ≠ 0) : 0 < bitsZ es ∧ 2 ^ ((bitsZ es).toNat - 1) ≤ E := by
  obtain ⟨s, hs, e1, h1, -⟩ := bits_norm hd hr h0
  refine ⟨by omega, ?_⟩
  rw [he, pow64] at h1
  have e2 : (2 : Int) ^ (64 * (es.length - 1)) * 9223372036854775808 = 2 ^ ((bitsZ es).toNat - 1) * 2 ^ s := by
    rw [show (9223372036854775808 : Int) = 2 ^ 63 by decide, ← Int.pow_add, ← Int.pow_add]; congr 1; omega
  rw [e2] at h1
  have h3 := Int.le_of_mul_le_mul_right h1 (pow_pos' (by decide) s)
  have h4 : ((2 ^ ((bitsZ es).toNat - 1) : Nat) : Int) = (2 : Int) ^ ((bitsZ es).toNat - 1) := by simp
  rw [← h4] at h3
  omega

/-- Bytes that are a number's digits, place by place, are told of it. -/
theorem bytes_end {zs M : List Int} {E n : Nat} (hd : Digs 18446744073709551616 zs) (hr : rightB zs = true) (he : val 18446744073709551616 zs = (E : Int)) (hn : (n : Int) = (bitsZ zs + 7) / 8) (hl : M.length = n) (hM : ∀ j, j < n → M.getD (n - 1 - j) 0 = ((E / 256 ^ j % 256 : Nat) : Int)) : ResBytes zs M := by
  have hb := bits_lt hd hr he
  have hg : ∀ j, j < n → M.reverse.getD j 0 = ((E / 256 ^ j % 256 : Nat) : Int) := fun j hj => by rw [getD_reverse hl hj]; exact hM j hj
  have hE : E < 256 ^ n := by
    have e : (256 : Nat) ^ n = 2 ^ (8 * n) := by rw [Nat.pow_mul]
    rw [e]
    exact Nat.lt_of_lt_of_le hb.2.2 (Nat.pow_le_pow_right (by omega) (by omega))
  unfold ResBytes
  rw [if_pos hr]
  refine ⟨fun x hx => ?_, ?_, ?_⟩
  · obtain ⟨i, hi, rfl⟩ := List.getElem_of_mem hx
    have h1 := hM (n - 1 - i) (by omega)
    rw [show n - 1 - (n - 1 - i) = i by omega] at h1
    have h2 : M.getD i 0 = M[i] := by simp [List.getD, hi]
    rw [← h2, h1]
    have := Nat.mod_lt (E / 256 ^ (n - 1 - i)) (show 0 < 256 by decide)
    omega
  · by_cases h0 : zs.length = 0
    · have e : zs = [] := List.eq_nil_of_length_eq_zero h0
      subst e
      have : bitsZ [] = 0 := by simp [bitsZ]
      rw [this] at hn
      have : n = 0 := by omega
      left
      rw [List.reverse_eq_nil_iff]
      exact List.eq_nil_of_length_eq_zero (by omega)
    · right
      have hge := bits_ge hd hr he h0
      have hn0 : 0 < n := by omega
      rw [List.length_reverse, hl, hg (n - 1) (by omega)]
      have e1 : 256 ^ (n - 1) ≤ E := by
        have e : (256 : Nat) ^ (n - 1) = 2 ^ (8 * (n - 1)) := by rw [Nat.pow_mul]
        rw [e]
        exact Nat.le_trans (Nat.pow_le_pow_right (by omega) (by omega)) hge.2
      have e2 : E / 256 ^ (n - 1) < 256 := by
        rw [Nat.div_lt_iff_lt_mul (Nat.pow_pos (by decide)), Nat.mul_comm, ← Nat.pow_succ, show (n - 1).succ = n by omega]
        exact hE
      have e3 : 1 ≤ E / 256 ^ (n - 1) := (Nat.le_div_iff_mul_le (Nat.pow_pos (by decide))).2 (by omega)
      rw [Nat.mod_eq_of_lt e2]
      omega
  · rw [← vs_all 256 M.reverse (n := n) (by simp [hl]), vs_congr (g := fun j => ((E / 256 ^ j % 256 : Nat) : Int)) hg, vs_digits, Nat.mod_eq_of_lt hE, he]

theorem wrap8 (z : Int) : IntKind.u8.wrap z = z % 256 := by simp [IntKind.wrap, IntKind.signed, IntKind.bits]

end Go.Proofs.Ytchmlfjjgehbkaa

namespace Go.Proofs.Ytchmlfjjgehbkaa
open Go.RowKit

/-- So many tries of k bytes each, of which the rest by M counts, find nothing below n; the next one finds a number, or the bytes have ended: what is told (none: they have ended), and what is left. -/
def DrawnIn (k : Nat) (M n : Int) : Nat → List Int → Option Int → List Int → Prop
  | 0, L, r, R => (L.length < k ∧ r = none ∧ R = L) ∨ (k ≤ L.length ∧ val 256 (L.take k).reverse % M < n ∧ r = some (val 256 (L.take k).reverse % M) ∧ R = L.drop k)
  | t + 1, L, r, R => k ≤ L.length ∧ ¬ val 256 (L.take k).reverse % M < n ∧ DrawnIn k M n t (L.drop k) r R

/-- Tries of k bytes each, of which the rest by M counts, till one is below n: what is told (none: the bytes have ended), and what is left. -/
def Drawn (k : Nat) (M n : Int) (L : List Int) (r : Option Int) (R : List Int) : Prop := ∃ t, DrawnIn k M n t L r R

theorem Drawn.over {k : Nat} {M n : Int} {L : List Int} (h : L.length < k) : Drawn k M n L none L := ⟨0, .inl ⟨h, rfl, rfl⟩⟩
theorem Drawn.hit {k : Nat} {M n : Int} {L : List Int} (h : k ≤ L.length) (h' : val 256 (L.take k).reverse % M < n) : Drawn k M n L (some (val 256 (L.take k).reverse % M)) (L.drop k) := ⟨0, .inr ⟨h, h', rfl, rfl⟩⟩
theorem Drawn.miss {k : Nat} {M n : Int} {L : List Int} {r : Option Int} {R : List Int} (h : k ≤ L.length) (h' : ¬ val 256 (L.take k).reverse % M < n) (hd : Drawn k M n (L.drop k) r R) : Drawn k M n L r R := by
  obtain ⟨t, ht⟩ := hd
  exact ⟨t + 1, h, h', ht⟩

theorem Drawn.inv {k : Nat} {M n : Int} {L : List Int} {r : Option Int} {R : List Int} (h : Drawn k M n L r R) :
    (L.length < k ∧ r = none ∧ R = L) ∨ (k ≤ L.length ∧ val 256 (L.take k).reverse % M < n ∧ r = some (val 256 (L.take k).reverse % M) ∧ R = L.drop k) ∨ (k ≤ L.length ∧ ¬ val 256 (L.take k).reverse % M < n ∧ Drawn k M n (L.drop k) r R) := by
  obtain ⟨t, ht⟩ := h
  cases t with
  | zero =>
    rcases ht with h | h
    · exact .inl h
    · exact .inr (.inl h)
  | succ t => exact .inr (.inr ⟨ht.1, ht.2.1, t, ht.2.2⟩)

theorem DrawnIn.unique {k : Nat} {M n : Int} : ∀ {t : Nat} {L : List Int} {r : Option Int} {R : List Int}, DrawnIn k M n t L r R → ∀ {r' : Option Int} {R' : List Int}, Drawn k M n L r' R' → r = r' ∧ R = R'
  | 0, L, r, R, h, r', R', h' => by
    rcases h with ⟨h1, rfl, rfl⟩ | ⟨h1, h2, rfl, rfl⟩ <;> rcases h'.inv with ⟨k1, rfl, rfl⟩ | ⟨k1, k2, rfl, rfl⟩ | ⟨k1, k2, _⟩
    · exact ⟨rfl, rfl⟩
    · omega
    · omega
    · omega
    · exact ⟨rfl, rfl⟩
    · exact absurd h2 k2
  | t + 1, L, r, R, h, r', R', h' => by
    obtain ⟨h1, h2, h3⟩ := h
    rcases h'.inv with ⟨k1, rfl, rfl⟩ | ⟨k1, k2, rfl, rfl⟩ | ⟨k1, k2, k3⟩
    · omega
    · exact absurd k2 h2
    · exact DrawnIn.unique h3 k3

theorem Drawn.unique {k : Nat} {M n : Int} {L : List Int} {r : Option Int} {R : List Int} (h : Drawn k M n L r R) {r' : Option Int} {R' : List Int} (h' : Drawn k M n L r' R') : r = r' ∧ R = R' := by
  obtain ⟨t, ht⟩ := h
  exact DrawnIn.unique ht h'

theorem DrawnIn.hangs {k : Nat} {M n : Int} : ∀ {t : Nat} {L : List Int} {x : Int} {R : List Int}, DrawnIn k M n t L (some x) R → ∃ U, L = U ++ R ∧ ∀ Q, Drawn k M n (U ++ Q) (some x) Q
  | 0, L, x, R, h => by
    rcases h with ⟨_, e, _⟩ | ⟨h1, h2, e, rfl⟩
    · cases e
    · cases e
      refine ⟨L.take k, (List.take_append_drop k L).symm, fun Q => ?_⟩
      have hl : (L.take k).length = k := by simp; omega
      have e1 : (L.take k ++ Q).take k = L.take k := by rw [List.take_append_of_le_length (by omega), List.take_of_length_le (by omega)]
      have e2 : (L.take k ++ Q).drop k = Q := by
        have := List.drop_left (l₁ := L.take k) (l₂ := Q)
        rw [hl] at this; exact this
      have := Drawn.hit (M := M) (n := n) (L := L.take k ++ Q) (k := k) (by rw [List.length_append]; omega) (by rw [e1]; exact h2)
      rw [e1, e2] at this
      exact this
  | t + 1, L, x, R, h => by
    obtain ⟨h1, h2, h3⟩ := h
    obtain ⟨U, eU, hU⟩ := DrawnIn.hangs h3
    have hl : (L.take k).length = k := by simp; omega
    refine ⟨L.take k ++ U, by rw [List.append_assoc, ← eU, List.take_append_drop], fun Q => ?_⟩
    rw [List.append_assoc]
    have e1 : (L.take k ++ (U ++ Q)).take k = L.take k := by rw [List.take_append_of_le_length (by omega), List.take_of_length_le (by omega)]
    have e2 : (L.take k ++ (U ++ Q)).drop k = U ++ Q := by
      have := List.drop_left (l₁ := L.take k) (l₂ := U ++ Q)
      rw [hl] at this; exact this
    exact Drawn.miss (by rw [List.length_append]; omega) (by rw [e1]; exact h2) (by rw [e2]; exact hU Q)

theorem Drawn.hangs {k : Nat} {M n : Int} {L : List Int} {r : Option Int} {R : List Int} (h : Drawn k M n L r R) (x : Int) (hx : r = some x) : ∃ U, L = U ++ R ∧ ∀ Q, Drawn k M n (U ++ Q) (some x) Q := by
  subst hx
  obtain ⟨t, ht⟩ := h
  exact DrawnIn.hangs ht

theorem DrawnIn.left {k : Nat} {M n : Int} : ∀ {t : Nat} {L : List Int} {r : Option Int} {R : List Int}, DrawnIn k M n t L r R → R.length ≤ L.length
  | 0, L, r, R, h => by
    rcases h with ⟨_, _, rfl⟩ | ⟨_, _, _, rfl⟩
    · exact Nat.le_refl _
    · simp
  | t + 1, L, r, R, h => by
    have := DrawnIn.left h.2.2
    simp at this
    omega
theorem Drawn.left {k : Nat} {M n : Int} {L : List Int} {r : Option Int} {R : List Int} (h : Drawn k M n L r R) : R.length ≤ L.length := by
  obtain ⟨t, ht⟩ := h
  exact DrawnIn.left ht

theorem DrawnIn.told {k : Nat} {M n : Int} (hM : 0 < M) : ∀ {t : Nat} {L : List Int} {x : Int} {R : List Int}, DrawnIn k M n t L (some x) R → 0 ≤ x ∧ x < n
  | 0, L, x, R, h => by
    rcases h with ⟨_, e, _⟩ | ⟨_, h2, e, _⟩
    · cases e
    · cases e; exact ⟨Int.emod_nonneg _ (by omega), h2⟩
  | t + 1, L, x, R, h => DrawnIn.told hM h.2.2
theorem Drawn.told {k : Nat} {M n : Int} {L : List Int} {r : Option Int} {R : List Int} (h : Drawn k M n L r R) (hM : 0 < M) (x : Int) (hx : r = some x) : 0 ≤ x ∧ x < n := by
  subst hx
  obtain ⟨t, ht⟩ := h
  exact DrawnIn.told hM ht

/-- What is told of a take of n bytes. -/
def ResTake (L : List Int) (n : Int) (bs : List Int) (err : Int) (R : List Int) : Prop :=
  if n < 0 ∨ 65536 < n then bs = [] ∧ err = 1 ∧ R = L else if (L.length : Int) < n then bs = [] ∧ err = 7 ∧ R = L else bs = L.take n.toNat ∧ err = 0 ∧ R = L.drop n.toNat

theorem ResTake.unique {L : List Int} {n : Int} {bs cs : List Int} {e f : Int} {R S : List Int} (h : ResTake L n bs e R) (h' : ResTake L n cs f S) : bs = cs ∧ e = f ∧ R = S := by
  unfold ResTake at h h'
  split at h
  · rename_i hc
    rw [if_pos hc] at h'
    obtain ⟨rfl, rfl, rfl⟩ := h
    obtain ⟨rfl, rfl, rfl⟩ := h'
    exact ⟨rfl, rfl, rfl⟩
  · rename_i hc
    rw [if_neg hc] at h'
    split at h
    · rename_i hc2
      rw [if_pos hc2] at h'
      obtain ⟨rfl, rfl, rfl⟩ := h
      obtain ⟨rfl, rfl, rfl⟩ := h'
      exact ⟨rfl, rfl, rfl⟩
    · rename_i hc2
      rw [if_neg hc2] at h'
      obtain ⟨rfl, rfl, rfl⟩ := h
      obtain ⟨rfl, rfl, rfl⟩ := h'
      exact ⟨rfl, rfl, rfl⟩

theorem ResTake.ok {L : List Int} {n : Nat} {bs : List Int} {e : Int} {R : List Int} (h : ResTake L n bs e R) (h1 : n ≤ L.length) (h2 : n ≤ 65536) : bs = L.take n ∧ e = 0 ∧ R = L.drop n := by
  unfold ResTake at h
  rw [if_neg (by omega), if_neg (by omega)] at h
  simpa using h

theorem ResTake.over {L : List Int} {n : Nat} {bs : List Int} {e : Int} {R : List Int} (h : ResTake L n bs e R) (h1 : L.length < n) (h2 : n ≤ 65536) : bs = [] ∧ e = 7 ∧ R = L := by
  unfold ResTake at h
  rw [if_neg (by omega), if_pos (by omega)] at h
  exact h

/-- What is told of a draw below the number of the limbs zs. -/
def ResBelow (zs L ls : List Int) (err : Int) (R : List Int) : Prop :=
  if rightB zs = true ∧ 0 < zs.length then
    ∃ ms, Digs 18446744073709551616 ms ∧ Top ms ∧ val 18446744073709551616 ms = val 18446744073709551616 zs - 1 ∧
      (if bitsZ ms = 0 then ls = [] ∧ err = 0 ∧ R = L else
        ∃ r, Drawn ((bitsZ ms + 7) / 8).toNat (2 ^ (bitsZ ms).toNat) (val 18446744073709551616 zs) L r R ∧ ((r = none ∧ ls = [] ∧ err = 7) ∨ (∃ x, r = some x ∧ Res x ls err)))
  else ls = [] ∧ err = 1 ∧ R = L

theorem ResBelow.unique {zs L ls ks : List Int} {e f : Int} {R S : List Int} (h : ResBelow zs L ls e R) (h' : ResBelow zs L ks f S) : ls = ks ∧ e = f ∧ R = S := by
  unfold ResBelow at h h'
  split at h
  · rename_i hc
    rw [if_pos hc] at h'
    obtain ⟨ms, d1, t1, v1, h⟩ := h
    obtain ⟨ns, d2, t2, v2, h'⟩ := h'
    have em : ms = ns := val_inj (by decide) d1 d2 t1 t2 (v1.trans v2.symm)
    subst em
    split at h
    · rename_i hc2
      rw [if_pos hc2] at h'
      obtain ⟨rfl, rfl, rfl⟩ := h
      obtain ⟨rfl, rfl, rfl⟩ := h'
      exact ⟨rfl, rfl, rfl⟩
    · rename_i hc2
      rw [if_neg hc2] at h'
      obtain ⟨r, k1, m1⟩ := h
      obtain ⟨q, k2, m2⟩ := h'
      obtain ⟨e1, e2⟩ := k1.unique k2
      subst e1
      subst e2
      rcases m1 with ⟨rfl, rfl, rfl⟩ | ⟨x, rfl, hx⟩
      · rcases m2 with ⟨_, rfl, rfl⟩ | ⟨y, ey, _⟩
        · exact ⟨rfl, rfl, rfl⟩
        · cases ey
      · rcases m2 with ⟨ey, _⟩ | ⟨y, ey, hy⟩
        · cases ey
        · cases ey
          obtain ⟨a1, a2⟩ := hx.unique hy
          exact ⟨a1, a2, rfl⟩
  · rename_i hc
    rw [if_neg hc] at h'
    obtain ⟨rfl, rfl, rfl⟩ := h
    obtain ⟨rfl, rfl, rfl⟩ := h'
    exact ⟨rfl, rfl, rfl⟩

/-- The first byte's lowest bits alone: the number's lowest bits. -/
theorem low_bits {y : Int} {r : List Int} {s : Nat} (hr : Digs 256 r) : val 256 (y % 2 ^ s :: r).reverse = val 256 (y :: r).reverse % 2 ^ (8 * r.length + s) := by
  have e : ∀ z : Int, val 256 (z :: r).reverse = val 256 r.reverse + 256 ^ r.length * z := fun z => by
    rw [List.reverse_cons, val_append, List.length_reverse]; simp [val]
  rw [e, e]
  have h0 := val_nonneg (B := 256) (by decide) (zs := r.reverse) (fun x hx => hr x (List.mem_reverse.1 hx))
  have h1 := val_lt (B := 256) (by decide) (zs := r.reverse) (fun x hx => hr x (List.mem_reverse.1 hx))
  rw [List.length_reverse] at h1
  have e2 : (256 : Int) ^ r.length = 2 ^ (8 * r.length) := by rw [show (256 : Int) = 2 ^ 8 by decide, ← Int.pow_mul]
  rw [e2] at h1 ⊢
  have hp := pow_pos' (B := 2) (by decide) (8 * r.length)
  have hq := pow_pos' (B := 2) (by decide) s
  generalize val 256 r.reverse = v at *
  generalize hP : (2 : Int) ^ (8 * r.length) = P at *
  rw [Int.pow_add, hP]
  generalize (2 : Int) ^ s = S at *
  have e3 := Int.emod_add_mul_ediv y S
  have e4 : v + P * y = v + P * (y % S) + P * S * (y / S) := by
    have : P * y = P * (y % S) + P * (S * (y / S)) := by rw [← Int.mul_add, e3]
    rw [this, Int.mul_assoc]; omega
  rw [e4, Int.add_mul_emod_self_left]
  have b1 := Int.emod_nonneg y (show S ≠ 0 by omega)
  have b2 := Int.emod_lt_of_pos y hq
  have b3 : P * (y % S) ≤ P * (S - 1) := Int.mul_le_mul_of_nonneg_left (by omega) (by omega)
  have b4 : 0 ≤ P * (y % S) := Int.mul_nonneg (by omega) b1
  rw [Int.mul_sub] at b3
  exact (Int.emod_eq_of_lt (by omega) (by omega)).symm
end Go.Proofs.Ytchmlfjjgehbkaa

/-
  The contract of nat.Read.
  The contract of the document's Read.
  The contract of the document's Bytes.
  Bytes as a string.
-/
import Derived.Test.YtchmlfjjgehbkaaGreatBytA
import Derived.BigRegion
import Derived.Test.YtchmlfjjgehbkaaGreatRefA
import Derived.Test.YtchmlfjjgehbkaaGreatNatA
import Derived.Laws.BytesString
namespace Go.Proofs.YtchmlfjjgehbkaaGreat
open Go.RowKit

theorem or_low {c h : Int} {s : Nat} (h0 : 0 ≤ h) (h1 : h * 2 ^ s < 18446744073709551616) (c0 : 0 ≤ c) (c1 : c < 2 ^ s) (c2 : c < 18446744073709551616) : bits .or .u64 c (h * 2 ^ s) = c + h * 2 ^ s := by
  obtain ⟨n, rfl⟩ := Int.eq_ofNat_of_zero_le h0
  obtain ⟨m, rfl⟩ := Int.eq_ofNat_of_zero_le c0
  have e0 : (n : Int) * 2 ^ s = ((2 ^ s * n : Nat) : Int) := by rw [Nat.mul_comm]; simp
  have c1' : m < 2 ^ s := by
    have : ((2 ^ s : Nat) : Int) = (2 : Int) ^ s := by simp
    omega
  rw [e0] at h1 ⊢
  have h2 := bits_or_u64_nat m (2 ^ s * n) (by omega) (by omega)
  rw [Nat.or_comm, Nat.two_pow_add_eq_or_of_lt c1' n |>.symm] at h2
  exact h2.trans (by omega)

theorem Byts.tail {w : World} {b off l c : Nat} {x : Int} {r : List Int} (h : Byts w (some ⟨b, off, none⟩) l c (x :: r)) : Byts w (some ⟨b, off + 1, none⟩) (l - 1) (c - 1) r := by
  have hl := h.hlen
  have hm := h.hmax
  have hc := h.hcap
  simp at hl
  refine ⟨by omega, by omega, by omega, fun hp => ?_, fun y hy => h.word y (List.mem_cons_of_mem _ hy)⟩
  obtain ⟨b2, o2, e, hcell⟩ := h.cells (by omega)
  cases e
  refine ⟨b, off + 1, rfl, fun i hi => ?_⟩
  have := hcell (i + 1) (by omega)
  rw [show off + (i + 1) = off + 1 + i by omega] at this
  simpa using this

theorem Byts.moved {w : World} {a a' : Option Addr} {l c : Nat} {r : List Int} (h : Byts w a l c r) (h0 : l = 0) : Byts w a' l c r := ⟨h.hlen, h.hcap, h.hmax, fun hp => absurd hp (by omega), h.word⟩

theorem val_lead {B : Int} {x : List Int} {y : List Int} (h : ∀ v, v ∈ x → v = 0) : val B (x ++ y).reverse = val B y.reverse := by
  rw [List.reverse_append, val_append, val_zeros B (zs := x.reverse) (fun v hv => h v (List.mem_reverse.1 hv))]; omega

theorem limb_lt {M : List Int} {i : Nat} (hd : Digs 18446744073709551616 M) (hv : val 18446744073709551616 M < 256 ^ i) : M.getD (i / 8) 0 < 2 ^ (i % 8 * 8) := by
  have e := val_ediv hd (i / 8)
  have h2 := val_nonneg (B := 18446744073709551616) (by decide) (hd.drop (i / 8 + 1))
  have h3 : val 18446744073709551616 M / 18446744073709551616 ^ (i / 8) < 2 ^ (i % 8 * 8) := by
    refine Int.ediv_lt_of_lt_mul (pow_pos' (by decide) _) ?_
    have e2 : (2 : Int) ^ (i % 8 * 8) * 18446744073709551616 ^ (i / 8) = 256 ^ i := by
      rw [pow64, ← Int.pow_add, show (256 : Int) = 2 ^ 8 by decide, ← Int.pow_mul]; congr 1; omega
    rw [e2]; exact hv
  omega

theorem read_step {M : List Int} {n i : Nat} {y V : Int} (hl : M.length = n) (hd : Digs 18446744073709551616 M) (hi : i / 8 < n) (hv : vs 18446744073709551616 (fun j => M.getD j 0) n = V) (hV : V < 256 ^ i) (hy : 0 ≤ y ∧ y < 256) :
    M.getD (i / 8) 0 < 2 ^ (i % 8 * 8) ∧ y * 2 ^ (i % 8 * 8) < 18446744073709551616 ∧ 0 ≤ M.getD (i / 8) 0 + y * 2 ^ (i % 8 * 8) ∧ M.getD (i / 8) 0 + y * 2 ^ (i % 8 * 8) < 18446744073709551616 ∧
    vs 18446744073709551616 (fun j => (M.set (i / 8) (M.getD (i / 8) 0 + y * 2 ^ (i % 8 * 8))).getD j 0) n = V + 256 ^ i * y ∧ V + 256 ^ i * y < 256 ^ (i + 1) := by
  have hvv : val 18446744073709551616 M = V := by rw [← hv, vs_all _ M (by omega)]
  have h1 := limb_lt hd (by rw [hvv]; exact hV)
  have h0 := hd.getD (by decide) (i / 8)
  have hp := pow_pos' (B := 2) (by decide) (i % 8 * 8)
  have h2 : (2 : Int) ^ (i % 8 * 8) * 256 ≤ 18446744073709551616 := by
    rw [show (256 : Int) = 2 ^ 8 by decide, ← Int.pow_add, show (18446744073709551616 : Int) = 2 ^ 64 by decide]
    exact pow_mono (by decide) (by omega)
  have h3 : y * 2 ^ (i % 8 * 8) ≤ 255 * 2 ^ (i % 8 * 8) := Int.mul_le_mul_of_nonneg_right (by omega) (by omega)
  have h4 : 0 ≤ y * 2 ^ (i % 8 * 8) := Int.mul_nonneg hy.1 (by omega)
  refine ⟨h1, by omega, by omega, by omega, ?_, ?_⟩
  · rw [vs_set hi (by omega), hv]
    have e2 : (18446744073709551616 : Int) ^ (i / 8) * (M.getD (i / 8) 0 + y * 2 ^ (i % 8 * 8) - M.getD (i / 8) 0) = 256 ^ i * y := by
      have e3 : M.getD (i / 8) 0 + y * 2 ^ (i % 8 * 8) - M.getD (i / 8) 0 = 2 ^ (i % 8 * 8) * y := by rw [Int.mul_comm]; omega
      rw [e3, ← Int.mul_assoc, pow64, ← Int.pow_add, show (256 : Int) = 2 ^ 8 by decide, ← Int.pow_mul]
      congr 2; omega
    rw [e2]
  · have h5 : 256 ^ i * (y + 1) ≤ (256 : Int) ^ i * 256 := Int.mul_le_mul_of_nonneg_left (by omega) (Int.le_of_lt (pow_pos' (by decide) i))
    rw [Int.mul_add] at h5
    rw [Int.pow_succ]; omega

theorem noughts_getD (n i : Nat) : (noughts n).getD i 0 = 0 := by
  unfold noughts
  by_cases h : i < n
  · simp [List.getD, h]
  · simp [List.getD, List.getElem?_eq_none (show (List.replicate n (0 : Int)).length ≤ i by simp; omega)]

theorem read_long {ds : List Int} (hd : Digs 256 ds) (ht : Top ds) (hl : 512 < ds.length) : (18446744073709551616 : Int) ^ 64 ≤ val 256 ds := by
  have h1 := val_ge (B := 256) (by decide) hd ht (by intro e; subst e; simp at hl)
  have h2 := pow_mono (B := 256) (by decide) (show 512 ≤ ds.length - 1 by omega)
  have e : (18446744073709551616 : Int) ^ 64 = 256 ^ 512 := by rw [show (18446744073709551616 : Int) = 256 ^ 8 by decide, ← Int.pow_mul]
  omega

end Go.Proofs.YtchmlfjjgehbkaaGreat

namespace Go.Proofs.YtchmlfjjgehbkaaGreat
open Go.RowKit

theorem rr_one {f : Nat → Int} {ds : List Int} {t : Nat} (hl : ds.length = t) (hv : val 65536 ds = vs 256 f (2 * t)) : val 65536 (ds ++ [f (2 * t)]) = vs 256 f (2 * t + 1) := by
  rw [val_snoc, hl, hv]
  simp only [vs]
  rw [show (65536 : Int) = 256 ^ 2 by decide, ← Int.pow_mul]

theorem rr_two {f : Nat → Int} {ds : List Int} {t : Nat} (hl : ds.length = t) (hv : val 65536 ds = vs 256 f (2 * t)) : val 65536 (ds ++ [f (2 * t) + 256 * f (2 * t + 1)]) = vs 256 f (2 * t + 2) := by
  rw [val_snoc, hl, hv]
  simp only [vs]
  rw [show (65536 : Int) = 256 ^ 2 by decide, ← Int.pow_mul, Int.pow_succ, Int.mul_add, Int.mul_assoc]
  omega

/-- The bytes behind the noughts ahead, the lowest first. -/
theorem rr_val {bs : List Int} {la k : Nat} (hl : bs.length = la) (hk : k ≤ la) (h0 : ∀ j, j < k → bs.getD j 0 = 0) : vs 256 (fun j => bs.getD (la - 1 - j) 0) (la - k) = val 256 bs.reverse := by
  rw [← vs_all 256 bs.reverse (n := (la - k) + k) (by simp; omega), vs_add]
  have e1 : vs 256 (fun i => bs.reverse.getD i 0) (la - k) = vs 256 (fun j => bs.getD (la - 1 - j) 0) (la - k) := vs_congr (fun j hj => getD_reverse hl (by omega))
  have e2 : vs 256 (fun i => bs.reverse.getD (la - k + i) 0) k = 0 := vs_zero _ (fun i hi => by rw [getD_reverse hl (by omega)]; exact h0 _ (by omega))
  rw [e1, e2]; omega

theorem rr_long {bs : List Int} {la k : Nat} (hd : Digs 256 bs) (hl : bs.length = la) (hk : k + 512 < la) (h0 : ∀ j, j < k → bs.getD j 0 = 0) (hne : bs.getD k 0 ≠ 0) : (18446744073709551616 : Int) ^ 64 ≤ val 256 bs.reverse := by
  have e : val 256 bs.reverse = val 256 (bs.drop k).reverse := by
    have h1 : bs = bs.take k ++ bs.drop k := (List.take_append_drop k bs).symm
    have h2 := val_lead (B := 256) (x := bs.take k) (y := bs.drop k) (fun v hv => by
      obtain ⟨i, hi, rfl⟩ := List.getElem_of_mem hv
      simp at hi
      have := h0 i (by omega)
      simpa [List.getD, show i < bs.length by omega] using this)
    rw [← h1] at h2
    exact h2
  rw [e]
  refine read_long (fun x hx => hd x (List.mem_of_mem_drop (List.mem_reverse.1 hx))) (.inr ?_) (by simp; omega)
  rw [List.length_reverse, getD_reverse rfl (by simp; omega)]
  have : (bs.drop k).length - 1 - ((bs.drop k).length - 1) = 0 := by omega
  rw [this]
  simpa [List.getD] using hne

end Go.Proofs.YtchmlfjjgehbkaaGreat

namespace Go.Proofs.YtchmlfjjgehbkaaGreat
open Go.RowKit

/-- The slice value v, in a row of the call's own from block 'base' on, holds the bytes zs. -/
def BOwn (w : World) (base : Nat) (v : Value) (zs : List Int) : Prop := w.ownsRow base 5 1 v zs.length (zs.map (Value.int .u8))

theorem BOwn.nil (w : World) (base : Nat) : BOwn w base (.slice none 0 0) [] := World.ownsRow_nil _ _ _ _
theorem BOwn.alloc {w : World} {base : Nat} {v : Value} {zs : List Int} (h : BOwn w base v zs) (o : Obj) : BOwn (w.alloc o) base v zs := World.ownsRow.alloc h o

theorem BOwn.byts {w : World} {base : Nat} {v : Value} {zs : List Int} (h : BOwn w base v zs) (hd : Digs 256 zs) : ∃ a cap, v = .slice a zs.length cap ∧ Byts w a zs.length cap zs := by
  obtain ⟨h1, h2⟩ := h
  rcases h2 with ⟨rfl, hn⟩ | ⟨g, cap, cur, rfl, hb, hg, hnc, hcm, hcs, htk⟩
  · have e : zs = [] := List.eq_nil_of_length_eq_zero hn
    subst e
    exact ⟨none, 0, rfl, Byts.nil _⟩
  · refine ⟨some ⟨g, 0, none⟩, cap, rfl, rfl, hnc, hcm, fun _ => ⟨g, 0, rfl, fun i hi => ?_⟩, hd⟩
    have hown : w.ownsRow base 5 1 (.slice (some ⟨g, 0, none⟩) zs.length cap) zs.length (zs.map (Value.int .u8)) := ⟨h1, .inr ⟨g, cap, cur, rfl, hb, hg, hnc, hcm, hcs, htk⟩⟩
    rw [Nat.zero_add, hown.cellAt i (by omega)]
    simp [List.getD, hi]

theorem BOwn.bytsN {w : World} {base : Nat} {v : Value} {zs : List Int} (h : BOwn w base v zs) (hd : Digs 256 zs) : ∃ a cap, v = .slice a zs.length cap ∧ Byts w a zs.length cap zs ∧ (a = none → cap = 0) := by
  obtain ⟨a, cap, e, hb⟩ := h.byts hd
  refine ⟨a, cap, e, hb, fun ha => ?_⟩
  subst ha
  obtain ⟨_, ⟨e2, _⟩ | ⟨g, c, cur, e2, _⟩⟩ := h
  · rw [e2] at e
    simp at e
    exact e.2.symm
  · rw [e2] at e
    simp at e
theorem wpList_appB1 (w : World) {ops : Array Oper} {rest : List Oper} {o : Oper} {a : Act} {Q : Exit → Act → World → Prop} (hgd : o.guard = none) (s x : Operand) (t : TypeId)
    (ho : o.op = .call { callee := .builtin .append, args := #[s, x], argTypes := #[t, t] }) (ht : Tryz.prog.underlying t = some (.slice 5))
    (base : Nat) (v : Value) (zs : List Int) (hs : a.eval s = v) (hown : BOwn w base v zs) (ad : Addr) (y : Int) (hx : a.eval x = .slice (some ad) 1 1) (hc : w.cell? ad = some (.int .u8 y))
    (hlen : zs.length < 1000000) (w0 : World) (hbase : base ≤ w.heap.size) (hb : Below base w0 w)
    (h : ∀ v' w', BOwn w' base v' (zs ++ [y]) → Below base w0 w' → wpList Tryz.prog ops Q rest (a.put o.dst v') w') : wpList Tryz.prog ops Q (o :: rest) a w := by
  obtain ⟨i0, hi, hz0, hz1, hz2⟩ := info_parts Tryz.infoB
  refine wpList_append_own w hgd s x t ho base 5 i0 (.int .u8 0) 1 1 ht hi hz0 hz1 hz2 rfl (by decide) v zs.length (zs.map (Value.int .u8)) hs hown ad 1 1 [.int .u8 y] hx rfl ?_ ?_ ?_ ?_ hbase ?_
  · intro j u hj
    match j, hj with
    | 0, hj =>
      simp at hj; subst hj
      obtain ⟨b, off, spot⟩ := ad
      have hspot : spot = none := World.cell?_spot hc
      subst hspot
      rw [Addr.add_lit]; exact hc
  · intro u hu; simp at hu; subst hu; rfl
  · unfold maxLen; omega
  · omega
  · intro v' w' h2 h3 _
    refine h v' w' ?_ (hb.grown h3 hbase (fun k hk => (World.ownsRow.lt hown k hk).1))
    have e : (zs ++ [y]).length = zs.length + 1 := by simp
    unfold BOwn
    rw [e, List.map_append]
    exact h2


theorem rb_two {bs : List Int} {x : Int} (hd : Digs 256 bs) (ht : Top bs.reverse) (hx : 0 ≤ x ∧ x < 65536) (h : bs ≠ [] ∨ 255 < x) :
    Digs 256 ((bs ++ [x / 256]) ++ [x % 256]) ∧ Top ((bs ++ [x / 256]) ++ [x % 256]).reverse ∧ val 256 ((bs ++ [x / 256]) ++ [x % 256]).reverse = x + 65536 * val 256 bs.reverse ∧ (bs ++ [x / 256]) ++ [x % 256] ≠ [] := by
  have e : ((bs ++ [x / 256]) ++ [x % 256]).reverse = x % 256 :: x / 256 :: bs.reverse := by simp
  refine ⟨(hd.snoc ⟨by omega, by omega⟩).snoc ⟨by omega, by omega⟩, ?_, ?_, by simp⟩
  · rw [e]
    right
    rcases ht with h0 | h0
    · have hb : bs = [] := by simpa using h0
      subst hb
      rcases h with h | h
      · exact absurd rfl h
      · simp; omega
    · have hl : 0 < bs.reverse.length := by
        cases hr : bs.reverse with
        | nil => rw [hr] at h0; simp at h0
        | cons a b => simp
      have hl2 : (x % 256 :: x / 256 :: bs.reverse).length - 1 = (bs.reverse.length - 1) + 2 := by simp at hl ⊢; omega
      rw [hl2]
      simpa using h0
  · rw [e]
    simp only [val]
    omega

theorem rb_one {x : Int} (hx : 0 < x ∧ x ≤ 255) : Digs 256 ([] ++ [x % 256]) ∧ Top ([] ++ [x % 256] : List Int).reverse ∧ val 256 ([] ++ [x % 256] : List Int).reverse = x + 65536 * val 256 ([] : List Int).reverse ∧ ([] ++ [x % 256] : List Int) ≠ [] := by
  refine ⟨(Digs.nil _).snoc ⟨by omega, by omega⟩, ?_, ?_, by simp⟩
  · right; simp; omega
  · simp [val]; omega

theorem drop_val {B : Int} {ds : List Int} {i : Nat} (h : i < ds.length) : val B (ds.drop i) = ds.getD i 0 + B * val B (ds.drop (i + 1)) := by
  rw [List.drop_eq_getElem_cons h, val]
  simp [List.getD, h]

end Go.Proofs.YtchmlfjjgehbkaaGreat

namespace Go.Proofs.YtchmlfjjgehbkaaGreat
open Go.RowKit

def strOf (bs : List Int) : ByteArray := bs.foldl (fun r n => r.push (UInt8.ofNat n.toNat)) ByteArray.empty

theorem Byts.lit1 (w : World) (x : Int) (hx : 0 ≤ x ∧ x < 256) (t : TypeId) : Byts (w.alloc (.cells #[.int .u8 x] t)) (some ⟨w.heap.size, 0, none⟩) 1 1 [x] := by
  refine ⟨rfl, Nat.le_refl _, by decide, fun _ => ⟨_, _, rfl, fun i hi => ?_⟩, fun y hy => ?_⟩
  · obtain rfl : i = 0 := by omega
    simp
  · simp at hy; subst hy; exact hx

theorem read_one {ls : List Int} {e : Int} (h : Res (val 256 [1].reverse) ls e) : ls.length = 1 := by
  have h2 : Res (val 256 [1].reverse) [1] 0 := .inl ⟨rfl, by intro x hx; simp at hx; omega, .inr (by decide), by decide, by decide⟩
  rw [(h.unique h2).1]; rfl
end Go.Proofs.YtchmlfjjgehbkaaGreat

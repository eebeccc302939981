/-
  Messages as bytes: lists of numbers and of bytes, one behind the other; each is of one message alone.
  The document's messages: lists of whole numbers in memory; the contract of list.
  The document's messages: rows of whole numbers of a call's own.
  Messages: when one may be; its lists in memory.
  A message's bytes, by definition; what is told of a message.
-/
import Derived.Test.YtchmlfjjgehbkaaGreatC9A
import Derived.Test.YtchmlfjjgehbkaaGreatC9C
import Derived.Test.YtchmlfjjgehbkaaGreatR9B
import Derived.Test.YtchmlfjjgehbkaaGreatBytB
import Derived.Test.YtchmlfjjgehbkaaGreatNatA
namespace Go.Proofs.YtchmlfjjgehbkaaGreat
open Go.RowKit

/-- Two codes at the beginning of the same bytes are the same. -/
theorem code_part {c c' x y : List Int} {n n' : Nat} (h : IsCode c n) (h' : IsCode c' n') (e : c ++ x = c' ++ y) : n = n' ∧ x = y := by
  obtain rfl := h.free h' (L := c ++ x) (List.prefix_append _ _) (by rw [e]; exact List.prefix_append _ _)
  exact ⟨h.num h', List.append_cancel_left e⟩
/-- The codes of numbers, one behind the other. -/
def CodesOf : List Nat → List Int → Prop
  | [], ys => ys = []
  | n :: l, ys => ∃ c r, IsCode c n ∧ CodesOf l r ∧ ys = c ++ r
theorem CodesOf.unique : ∀ {l : List Nat} {x y : List Int}, CodesOf l x → CodesOf l y → x = y
  | [], _, _, h, k => h.trans k.symm
  | n :: l, _, _, ⟨c, r, h1, h2, e1⟩, ⟨c', r', k1, k2, e2⟩ => by rw [e1, e2, h1.bytes k1, CodesOf.unique h2 k2]
theorem CodesOf.part : ∀ {l l' : List Nat} {x x' t t' : List Int}, CodesOf l x → CodesOf l' x' → l.length = l'.length → x ++ t = x' ++ t' → l = l' ∧ t = t'
  | [], [], x, x', t, t', h, h', _, e => by
    have e1 : x = [] := h
    have e2 : x' = [] := h'
    rw [e1, e2] at e
    exact ⟨rfl, by simpa using e⟩
  | [], _ :: _, _, _, _, _, _, _, hl, _ => by simp at hl
  | _ :: _, [], _, _, _, _, _, _, hl, _ => by simp at hl
  | n :: l, n' :: l', x, x', t, t', h, h', hl, e => by
    obtain ⟨c, r, h1, h2, e1⟩ := h
    obtain ⟨c', r', k1, k2, e2⟩ := h'
    rw [e1, e2, List.append_assoc, List.append_assoc] at e
    obtain ⟨rfl, e3⟩ := code_part h1 k1 e
    obtain ⟨rfl, e4⟩ := CodesOf.part h2 k2 (by simpa using hl) e3
    exact ⟨rfl, e4⟩
theorem CodesOf.ex : ∀ (l : List Nat), (∀ n, n ∈ l → n < 18446744073709551616) → ∃ ys, CodesOf l ys
  | [], _ => ⟨[], rfl⟩
  | n :: l, h => by
    obtain ⟨c, hc⟩ := code_ex 9 n (by
      have := h n (List.mem_cons_self ..)
      have : (128 : Nat) ^ 10 = 1180591620717411303424 := by decide
      show n < 128 ^ 10
      omega)
    obtain ⟨r, hr⟩ := CodesOf.ex l (fun m hm => h m (List.mem_cons_of_mem _ hm))
    exact ⟨c ++ r, c, r, hc, hr, rfl⟩
theorem CodesOf.snoc : ∀ {l : List Nat} {x c : List Int} {n : Nat}, CodesOf l x → IsCode c n → CodesOf (l ++ [n]) (x ++ c)
  | [], x, c, n, h, hc => by
    have e : x = [] := h
    rw [e]
    exact ⟨c, [], hc, rfl, by simp⟩
  | m :: l, x, c, n, ⟨d, r, h1, h2, e⟩, hc => ⟨d, r ++ c, h1, CodesOf.snoc h2 hc, by rw [e, List.append_assoc]⟩
/-- A list of numbers: how many they are, and they. -/
def IsLst (l : List Nat) (ys : List Int) : Prop := ∃ c r, IsCode c l.length ∧ CodesOf l r ∧ ys = c ++ r
theorem IsLst.unique {l : List Nat} {x y : List Int} (h : IsLst l x) (k : IsLst l y) : x = y := by
  obtain ⟨c, r, h1, h2, rfl⟩ := h
  obtain ⟨c', r', k1, k2, rfl⟩ := k
  rw [h1.bytes k1, h2.unique k2]
theorem IsLst.part {l l' : List Nat} {x x' t t' : List Int} (h : IsLst l x) (k : IsLst l' x') (e : x ++ t = x' ++ t') : l = l' ∧ t = t' := by
  obtain ⟨c, r, h1, h2, rfl⟩ := h
  obtain ⟨c', r', k1, k2, rfl⟩ := k
  rw [List.append_assoc, List.append_assoc] at e
  obtain ⟨e1, e2⟩ := code_part h1 k1 e
  exact h2.part k2 e1 e2
/-- Bytes, each with how many they are ahead, one behind the other. -/
def BlobsOf : List (List Int) → List Int → Prop
  | [], ys => ys = []
  | b :: l, ys => ∃ c r, IsCode c b.length ∧ BlobsOf l r ∧ ys = c ++ (b ++ r)
theorem BlobsOf.unique : ∀ {l : List (List Int)} {x y : List Int}, BlobsOf l x → BlobsOf l y → x = y
  | [], _, _, h, k => h.trans k.symm
  | b :: l, _, _, ⟨c, r, h1, h2, e1⟩, ⟨c', r', k1, k2, e2⟩ => by rw [e1, e2, h1.bytes k1, BlobsOf.unique h2 k2]
theorem BlobsOf.part : ∀ {l l' : List (List Int)} {x x' t t' : List Int}, BlobsOf l x → BlobsOf l' x' → l.length = l'.length → x ++ t = x' ++ t' → l = l' ∧ t = t'
  | [], [], x, x', t, t', h, h', _, e => by
    have e1 : x = [] := h
    have e2 : x' = [] := h'
    rw [e1, e2] at e
    exact ⟨rfl, by simpa using e⟩
  | [], _ :: _, _, _, _, _, _, _, hl, _ => by simp at hl
  | _ :: _, [], _, _, _, _, _, _, hl, _ => by simp at hl
  | b :: l, b' :: l', x, x', t, t', h, h', hl, e => by
    obtain ⟨c, r, h1, h2, e1⟩ := h
    obtain ⟨c', r', k1, k2, e2⟩ := h'
    rw [e1, e2, List.append_assoc, List.append_assoc, List.append_assoc, List.append_assoc] at e
    obtain ⟨e3, e4⟩ := code_part h1 k1 e
    obtain ⟨rfl, e5⟩ := List.append_inj e4 e3
    obtain ⟨rfl, e6⟩ := BlobsOf.part h2 k2 (by simpa using hl) e5
    exact ⟨rfl, e6⟩
theorem BlobsOf.snoc : ∀ {l : List (List Int)} {x c b : List Int}, BlobsOf l x → IsCode c b.length → BlobsOf (l ++ [b]) (x ++ (c ++ b))
  | [], x, c, b, h, hc => by
    have e : x = [] := h
    rw [e]
    exact ⟨c, [], hc, rfl, by simp⟩
  | d :: l, x, c, b, ⟨q, r, h1, h2, e⟩, hc => ⟨q, r ++ (c ++ b), h1, BlobsOf.snoc h2 hc, by rw [e, List.append_assoc, List.append_assoc]⟩
def IsBlobs (l : List (List Int)) (ys : List Int) : Prop := ∃ c r, IsCode c l.length ∧ BlobsOf l r ∧ ys = c ++ r
theorem IsBlobs.unique {l : List (List Int)} {x y : List Int} (h : IsBlobs l x) (k : IsBlobs l y) : x = y := by
  obtain ⟨c, r, h1, h2, rfl⟩ := h
  obtain ⟨c', r', k1, k2, rfl⟩ := k
  rw [h1.bytes k1, h2.unique k2]
theorem IsBlobs.part {l l' : List (List Int)} {x x' t t' : List Int} (h : IsBlobs l x) (k : IsBlobs l' x') (e : x ++ t = x' ++ t') : l = l' ∧ t = t' := by
  obtain ⟨c, r, h1, h2, rfl⟩ := h
  obtain ⟨c', r', k1, k2, rfl⟩ := k
  rw [List.append_assoc, List.append_assoc] at e
  obtain ⟨e1, e2⟩ := code_part h1 k1 e
  exact h2.part k2 e1 e2
/-- A message's bytes: four numbers, two lists of numbers, a list of bytes. -/
def IsWire (hd ids rows : List Nat) (nats : List (List Int)) (ys : List Int) : Prop := ∃ y0 y1 y2 y3, CodesOf hd y0 ∧ IsLst ids y1 ∧ IsLst rows y2 ∧ IsBlobs nats y3 ∧ ys = y0 ++ (y1 ++ (y2 ++ y3))
theorem IsWire.unique {hd ids rows : List Nat} {nats : List (List Int)} {x y : List Int} (h : IsWire hd ids rows nats x) (k : IsWire hd ids rows nats y) : x = y := by
  obtain ⟨y0, y1, y2, y3, h0, h1, h2, h3, rfl⟩ := h
  obtain ⟨z0, z1, z2, z3, k0, k1, k2, k3, rfl⟩ := k
  rw [h0.unique k0, h1.unique k1, h2.unique k2, h3.unique k3]
theorem IsWire.inj {hd hd' ids ids' rows rows' : List Nat} {nats nats' : List (List Int)} {x : List Int} (h : IsWire hd ids rows nats x) (k : IsWire hd' ids' rows' nats' x) (hl : hd.length = hd'.length) : hd = hd' ∧ ids = ids' ∧ rows = rows' ∧ nats = nats' := by
  obtain ⟨y0, y1, y2, y3, h0, h1, h2, h3, rfl⟩ := h
  obtain ⟨z0, z1, z2, z3, k0, k1, k2, k3, e⟩ := k
  obtain ⟨rfl, e1⟩ := h0.part k0 hl e
  obtain ⟨rfl, e2⟩ := h1.part k1 e1
  obtain ⟨rfl, e3⟩ := h2.part k2 e2
  obtain ⟨rfl, -⟩ := h3.part k3 (t := []) (t' := []) (by simpa using e3)
  exact ⟨rfl, rfl, rfl, rfl⟩
/-- Numbers are read, one behind the other. -/
theorem read_codes {n : Nat} {c R : List Int} {most : Nat} (h : IsCode c n) (hn : n < 18446744073709551616) (hm : n ≤ most) : ResNum (c ++ R) most n 0 R :=
  ⟨n, c.length, NextT.of_code h hn, .inr ⟨fun e => by
    rcases e with e | e
    · exact h.nonempty (List.eq_nil_of_length_eq_zero e)
    · omega, rfl, rfl, by simp⟩⟩
end Go.Proofs.YtchmlfjjgehbkaaGreat

namespace Go.Proofs.YtchmlfjjgehbkaaGreat
open Go.RowKit

/-- The slice (a, len, cap) of whole numbers lies in memory. -/
structure Lsts (w : World) (a : Option Addr) (len cap : Nat) (xs : List Int) : Prop where
  hlen : xs.length = len
  hcap : len ≤ cap
  hmax : cap ≤ maxLen
  cells : 0 < len → ∃ b off, a = some ⟨b, off, none⟩ ∧ ∀ i, i < len → w.cell? ⟨b, off + i, none⟩ = some (.int .i64 (xs.getD i 0))
  word : ∀ x, x ∈ xs → -9223372036854775808 ≤ x ∧ x < 9223372036854775808
theorem Lsts.below {w w' : World} {a : Option Addr} {len cap : Nat} {xs : List Int} (h : Lsts w a len cap xs) (hb : Below w.heap.size w w') : Lsts w' a len cap xs :=
  ⟨h.hlen, h.hcap, h.hmax, fun hp => by
    obtain ⟨b, off, e, hc⟩ := h.cells hp
    exact ⟨b, off, e, fun i hi => (hb.cell (World.block_lt_of_cell? w _ (hc i hi))).trans (hc i hi)⟩, h.word⟩
theorem Lsts.nil (w : World) : Lsts w none 0 0 [] := ⟨rfl, Nat.le_refl _, Nat.zero_le _, fun h => absurd h (Nat.lt_irrefl _), fun x hx => by cases hx⟩
/-- Natural numbers as whole ones. -/
def ints (ns : List Nat) : List Int := List.map (fun (n : Nat) => (n : Int)) ns
theorem ints_len (ns : List Nat) : (ints ns).length = ns.length := by simp [ints]
theorem ints_get (ns : List Nat) (i : Nat) : (ints ns).getD i 0 = ((ns.getD i 0 : Nat) : Int) := by
  unfold ints List.getD
  rw [List.getElem?_map]
  cases ns[i]? <;> rfl
theorem codes_len : ∀ {l : List Nat} {ys : List Int}, CodesOf l ys → (∀ n, n ∈ l → n < 18446744073709551616) → ys.length ≤ 10 * l.length
  | [], ys, h, _ => by
    have e : ys = [] := h
    rw [e]
    simp
  | n :: l, ys, ⟨c, r, h1, h2, e⟩, hb => by
    have k1 := code_10 h1 (hb n (List.mem_cons_self ..))
    have k2 := codes_len h2 (fun m hm => hb m (List.mem_cons_of_mem _ hm))
    rw [e]
    simp
    omega
theorem take_more {ns : List Nat} {k : Nat} (hk : k < ns.length) : ns.take (k + 1) = ns.take k ++ [ns.getD k 0] := by
  rw [List.take_add_one]
  simp [List.getD, hk]

end Go.Proofs.YtchmlfjjgehbkaaGreat

namespace Go.Proofs.YtchmlfjjgehbkaaGreat
open Go.RowKit

/-- The slice value v, in a row of the call's own from block 'base' on, holds the whole numbers xs. -/
def IOwn (w : World) (base : Nat) (v : Value) (xs : List Int) : Prop := w.ownsRow base 3 1 v xs.length (xs.map (Value.int .i64))
theorem IOwn.nil (w : World) (base : Nat) : IOwn w base (.slice none 0 0) [] := World.ownsRow_nil _ _ _ _
theorem IOwn.alloc {w : World} {base : Nat} {v : Value} {xs : List Int} (h : IOwn w base v xs) (o : Obj) : IOwn (w.alloc o) base v xs := World.ownsRow.alloc h o
theorem IOwn.grown {w w' : World} {base : Nat} {v : Value} {xs : List Int} {k : Nat} (h : IOwn w base v xs) (hg : w.grownBy w' (some k)) (hk : k < base) : IOwn w' base v xs :=
  World.ownsRow.kept h hg (by
    cases e : v.ownBlock with
    | none => exact .inl rfl
    | some q =>
      right
      intro e2
      have := (World.ownsRow.lt h q e).1
      have := Option.some.inj e2
      omega)
theorem IOwn.lsts {w : World} {base : Nat} {v : Value} {xs : List Int} (h : IOwn w base v xs) (hd : ∀ x, x ∈ xs → -9223372036854775808 ≤ x ∧ x < 9223372036854775808) : ∃ a cap, v = .slice a xs.length cap ∧ Lsts w a xs.length cap xs ∧ (a = none → cap = 0) := by
  obtain ⟨h1, h2⟩ := h
  rcases h2 with ⟨rfl, hn⟩ | ⟨g, cap, cur, rfl, hb, hg, hnc, hcm, hcs, htk⟩
  · have e : xs = [] := List.eq_nil_of_length_eq_zero hn
    subst e
    exact ⟨none, 0, rfl, Lsts.nil _, fun _ => rfl⟩
  · refine ⟨some ⟨g, 0, none⟩, cap, rfl, ⟨rfl, hnc, hcm, fun _ => ⟨g, 0, rfl, fun i hi => ?_⟩, hd⟩, fun e => by cases e⟩
    have hown : w.ownsRow base 3 1 (.slice (some ⟨g, 0, none⟩) xs.length cap) xs.length (xs.map (Value.int .i64)) := ⟨h1, .inr ⟨g, cap, cur, rfl, hb, hg, hnc, hcm, hcs, htk⟩⟩
    rw [Nat.zero_add, hown.cellAt i (by omega)]
    simp [List.getD, hi]
theorem Tryz.infoI : (Tryz.prog.info? 3).map (fun i => (i.zero, i.size, i.bytes)) = some (some (.int .i64 0), 1, 8) := by kernel_rfl
theorem wpList_appI1 (w : World) {ops : Array Oper} {rest : List Oper} {o : Oper} {a : Act} {Q : Exit → Act → World → Prop} (hgd : o.guard = none) (s x : Operand) (t : TypeId)
    (ho : o.op = .call { callee := .builtin .append, args := #[s, x], argTypes := #[t, t] }) (ht : Tryz.prog.underlying t = some (.slice 3))
    (base : Nat) (v : Value) (xs : List Int) (hs : a.eval s = v) (hown : IOwn w base v xs) (ad : Addr) (y : Int) (hx : a.eval x = .slice (some ad) 1 1) (hc : w.cell? ad = some (.int .i64 y))
    (hlen : xs.length < 1000000) (hbase : base ≤ w.heap.size)
    (h : ∀ v' w', IOwn w' base v' (xs ++ [y]) → w.grownBy w' v.ownBlock → wpList Tryz.prog ops Q rest (a.put o.dst v') w') : wpList Tryz.prog ops Q (o :: rest) a w := by
  obtain ⟨i0, hi, hz0, hz1, hz2⟩ := info_parts Tryz.infoI
  refine wpList_append_own w hgd s x t ho base 3 i0 (.int .i64 0) 1 8 ht hi hz0 hz1 hz2 rfl (by decide) v xs.length (xs.map (Value.int .i64)) hs hown ad 1 1 [.int .i64 y] hx rfl ?_ ?_ ?_ ?_ hbase ?_
  · intro j u hj
    match j, hj with
    | 0, hj =>
      simp at hj; subst hj
      obtain ⟨b, off, spot⟩ := ad
      have hspot : spot = none := World.cell?_spot hc
      subst hspot
      rw [Addr.add_lit]; exact hc
  · intro u hu; simp at hu; subst hu; rfl
  · unfold maxLen; omega
  · omega
  · intro v' w' h2 h3 _
    refine h v' w' ?_ h3
    have e : (xs ++ [y]).length = xs.length + 1 := by simp
    unfold IOwn
    rw [e, List.map_append]
    exact h2
end Go.Proofs.YtchmlfjjgehbkaaGreat

namespace Go.Proofs.YtchmlfjjgehbkaaGreat
open Go.RowKit

/-- A slice of natural numbers lies in memory. -/
structure NRow (w : World) (a : Option Addr) (len cap : Nat) (ns : List (List Int)) : Prop where
  hlen : ns.length = len
  hcap : len ≤ cap
  hmax : cap ≤ maxLen
  cells : 0 < len → ∃ b off, a = some ⟨b, off, none⟩ ∧ ∀ i, i < len → ∃ p l c, w.cell? ⟨b, off + i, none⟩ = some (.slice p l c) ∧ Nums w p l c (ns.getD i [])
theorem NRow.below {w w' : World} {a : Option Addr} {len cap : Nat} {ns : List (List Int)} (h : NRow w a len cap ns) (hb : Below w.heap.size w w') : NRow w' a len cap ns :=
  ⟨h.hlen, h.hcap, h.hmax, fun hp => by
    obtain ⟨b, off, e, hc⟩ := h.cells hp
    refine ⟨b, off, e, fun i hi => ?_⟩
    obtain ⟨p, l, c, h1, h2⟩ := hc i hi
    exact ⟨p, l, c, (hb.cell (World.block_lt_of_cell? w _ h1)).trans h1, h2.below hb⟩⟩
theorem NRow.nil (w : World) : NRow w none 0 0 [] := ⟨rfl, Nat.le_refl _, Nat.zero_le _, fun h => absurd h (Nat.lt_irrefl _)⟩

/-- How many of A, B, C a kind has. -/
def numsOf (k : Int) : Int := if k = 3 ∨ k = 10 ∨ k = 11 then 1 else if k = 1 ∨ k = 2 ∨ k = 4 ∨ k = 5 ∨ k = 6 ∨ k = 8 then 2 else if k = 7 ∨ k = 9 then 3 else 0
/-- A message may be. -/
structure RightM (k a b c : Int) (ids rows : List Int) (nats : List (List Int)) : Prop where
  p1 : ¬ (k < 1 ∨ 11 < k ∨ a < 0 ∨ 1073741824 < a ∨ b < 0 ∨ 1073741824 < b ∨ c < 0 ∨ 1073741824 < c)
  p2 : ¬ ((numsOf k < 2 ∧ b ≠ 0) ∨ (numsOf k < 3 ∧ c ≠ 0) ∨ (k = 9 ∧ 1 < c))
  p3 : ¬ ((¬ (k = 5 ∨ k = 6) ∧ 0 < ids.length) ∨ (¬ (k = 4 ∨ k = 7) ∧ 0 < rows.length) ∨ (¬ (k = 1 ∨ k = 3 ∨ k = 5) ∧ 0 < nats.length))
  p4 : ¬ (16384 < ids.length ∨ 16384 < rows.length ∨ 16384 < nats.length)
  p5 : ¬ ((k = 1 ∧ nats.length ≠ 1) ∨ (k = 5 ∧ nats.length ≠ ids.length) ∨ (k = 6 ∧ ids.length = 0))
  p6 : ∀ i, i < ids.length → 0 ≤ ids.getD i 0 ∧ ids.getD i 0 ≤ 1073741824
  p7 : ∀ i, i < rows.length → 0 ≤ rows.getD i 0 ∧ rows.getD i 0 ≤ 1073741824 ∧ (0 < i → rows.getD (i - 1) 0 < rows.getD i 0)
  p8 : ∀ i, i < nats.length → rightB (nats.getD i []) = true ∧ (nats.getD i []).length ≤ 4
/-- What is told of a message's right. -/
def RgtT (k a b c : Int) (ids rows : List Int) (nats : List (List Int)) (w : World) (e : Ending) (w' : World) : Prop := ∃ r, e = .returned (.bool r) ∧ (r = true ↔ RightM k a b c ids rows nats) ∧ Below w.heap.size w w'
end Go.Proofs.YtchmlfjjgehbkaaGreat

namespace Go.Proofs.YtchmlfjjgehbkaaGreat
open Go.RowKit

/-- The bytes of natural numbers, one by one. -/
def NatsB (nats bss : List (List Int)) : Prop := bss.length = nats.length ∧ ∀ i, i < nats.length → ResBytes (nats.getD i []) (bss.getD i [])
theorem ext_getD {α : Type} {d : α} {xs ys : List α} (hl : xs.length = ys.length) (h : ∀ i, i < xs.length → xs.getD i d = ys.getD i d) : xs = ys := by
  refine List.ext_getElem hl (fun i h1 h2 => ?_)
  have := h i h1
  simpa [List.getD, h1, h2] using this
theorem NatsB.unique {nats x y : List (List Int)} (h : NatsB nats x) (k : NatsB nats y) : x = y :=
  ext_getD (d := []) (h.1.trans k.1.symm) (fun i hi => (h.2 i (by rw [← h.1]; exact hi)).unique (k.2 i (by rw [← h.1]; exact hi)))
theorem natbytes_inj {zs ys bs : List Int} (h : ResBytes zs bs) (k : ResBytes ys bs) (rz : rightB zs = true) (ry : rightB ys = true) (dz : Digs 18446744073709551616 zs) (dy : Digs 18446744073709551616 ys) : zs = ys := by
  unfold ResBytes at h k
  rw [if_pos rz] at h
  rw [if_pos ry] at k
  have top : ∀ {l : List Int}, rightB l = true → Top l := fun {l} r => by
    unfold rightB at r
    simp at r
    rcases r.2 with e | e
    · exact .inl e
    · exact .inr e
  exact val_inj (by decide) dz dy (top rz) (top ry) (h.2.2.symm.trans k.2.2)
theorem NatsB.inj {nats nats' bss : List (List Int)} (h : NatsB nats bss) (k : NatsB nats' bss) (r : ∀ i, i < nats.length → rightB (nats.getD i []) = true) (r' : ∀ i, i < nats'.length → rightB (nats'.getD i []) = true) (d : ∀ i, i < nats.length → Digs 18446744073709551616 (nats.getD i [])) (d' : ∀ i, i < nats'.length → Digs 18446744073709551616 (nats'.getD i [])) : nats = nats' := by
  have e : nats.length = nats'.length := h.1.symm.trans k.1
  exact ext_getD (d := []) e (fun i hi => natbytes_inj (h.2 i hi) (k.2 i (by omega)) (r i hi) (r' i (by omega)) (d i hi) (d' i (by omega)))
/-- Whole numbers that are natural ones. -/
def nat0 (xs : List Int) : List Nat := xs.map Int.toNat
theorem nat0_len (xs : List Int) : (nat0 xs).length = xs.length := by simp [nat0]
theorem nat0_ints {xs : List Int} (h : ∀ i, i < xs.length → 0 ≤ xs.getD i 0 ∧ xs.getD i 0 ≤ 1073741824) : ints (nat0 xs) = xs := by
  refine ext_getD (d := 0) (by rw [ints_len, nat0_len]) (fun i hi => ?_)
  rw [ints_len, nat0_len] at hi
  rw [ints_get]
  have := (h i hi).1
  simp [nat0, List.getD, hi] at this ⊢
  omega
theorem nat0_le {xs : List Int} (h : ∀ i, i < xs.length → 0 ≤ xs.getD i 0 ∧ xs.getD i 0 ≤ 1073741824) : ∀ n, n ∈ nat0 xs → n ≤ 1073741824 := by
  intro n hn
  unfold nat0 at hn
  obtain ⟨x, hx, rfl⟩ := List.mem_map.1 hn
  obtain ⟨i, hi, rfl⟩ := List.getElem_of_mem hx
  have := h i hi
  simp [List.getD, hi] at this
  omega
theorem nat0_inj {xs ys : List Int} (h : ∀ i, i < xs.length → 0 ≤ xs.getD i 0 ∧ xs.getD i 0 ≤ 1073741824) (k : ∀ i, i < ys.length → 0 ≤ ys.getD i 0 ∧ ys.getD i 0 ≤ 1073741824) (e : nat0 xs = nat0 ys) : xs = ys := by
  rw [← nat0_ints h, ← nat0_ints k, e]
/-- A message's bytes. -/
def IsMsg (k a b c : Int) (ids rows : List Int) (nats : List (List Int)) (ys : List Int) : Prop := ∃ bss, NatsB nats bss ∧ IsWire [k.toNat, a.toNat, b.toNat, c.toNat] (nat0 ids) (nat0 rows) bss ys
theorem IsMsg.unique {k a b c : Int} {ids rows : List Int} {nats : List (List Int)} {x y : List Int} (h : IsMsg k a b c ids rows nats x) (h' : IsMsg k a b c ids rows nats y) : x = y := by
  obtain ⟨bss, h1, h2⟩ := h
  obtain ⟨bss', k1, k2⟩ := h'
  rw [h1.unique k1] at h2
  exact h2.unique k2
/-- Its natural numbers are ones of 64 bits a limb. -/
def DigsN (nats : List (List Int)) : Prop := ∀ i, i < nats.length → Digs 18446744073709551616 (nats.getD i [])
theorem NRow.digs {w : World} {a : Option Addr} {len cap : Nat} {ns : List (List Int)} (h : NRow w a len cap ns) : DigsN ns := fun i hi => by
  have hl := h.hlen
  obtain ⟨b, off, e, hc⟩ := h.cells (by omega)
  obtain ⟨p, l, c, _, h2⟩ := hc i (by omega)
  exact h2.digs
theorem IsMsg.inj {k a b c k' a' b' c' : Int} {ids rows ids' rows' : List Int} {nats nats' : List (List Int)} {x : List Int} (h : IsMsg k a b c ids rows nats x) (h' : IsMsg k' a' b' c' ids' rows' nats' x) (r : RightM k a b c ids rows nats) (r' : RightM k' a' b' c' ids' rows' nats') (d : DigsN nats) (d' : DigsN nats') :
    (k = k' ∧ a = a' ∧ b = b' ∧ c = c') ∧ ids = ids' ∧ rows = rows' ∧ nats = nats' := by
  obtain ⟨bss, h1, h2⟩ := h
  obtain ⟨bss', k1, k2⟩ := h'
  obtain ⟨e1, e2, e3, rfl⟩ := h2.inj k2 rfl
  have p := r.p1
  have q := r'.p1
  simp at e1
  refine ⟨by omega, nat0_inj r.p6 r'.p6 e2, nat0_inj (fun i hi => ⟨(r.p7 i hi).1, (r.p7 i hi).2.1⟩) (fun i hi => ⟨(r'.p7 i hi).1, (r'.p7 i hi).2.1⟩) e3, h1.inj k1 (fun i hi => (r.p8 i hi).1) (fun i hi => (r'.p8 i hi).1) d d'⟩
/-- What is told of a message's bytes. -/
def ResWire (k a b c : Int) (ids rows : List Int) (nats : List (List Int)) (ys : List Int) (err : Int) : Prop :=
  (RightM k a b c ids rows nats ∧ IsMsg k a b c ids rows nats ys ∧ ys.length ≤ 1048576 ∧ err = 0) ∨ (¬ (RightM k a b c ids rows nats ∧ ∃ x, IsMsg k a b c ids rows nats x ∧ x.length ≤ 1048576) ∧ ys = [] ∧ err = 16)
theorem ResWire.unique {k a b c : Int} {ids rows : List Int} {nats : List (List Int)} {ys ys' : List Int} {err err' : Int} (h : ResWire k a b c ids rows nats ys err) (h' : ResWire k a b c ids rows nats ys' err') : ys = ys' ∧ err = err' := by
  rcases h with ⟨h1, h2, h3, rfl⟩ | ⟨h1, rfl, rfl⟩ <;> rcases h' with ⟨k1, k2, k3, rfl⟩ | ⟨k1, rfl, rfl⟩
  · exact ⟨h2.unique k2, rfl⟩
  · exact absurd ⟨h1, _, h2, h3⟩ k1
  · exact absurd ⟨k1, _, k2, k3⟩ h1
  · exact ⟨rfl, rfl⟩
/-- What is told of the message that bytes are. -/
def ResMsg (L : List Int) (k a b c : Int) (ids rows : List Int) (nats : List (List Int)) (err : Int) : Prop :=
  (RightM k a b c ids rows nats ∧ IsMsg k a b c ids rows nats L ∧ L.length ≤ 1048576 ∧ err = 0) ∨
  ((∀ k a b c ids rows nats, RightM k a b c ids rows nats → DigsN nats → IsMsg k a b c ids rows nats L → ¬ L.length ≤ 1048576) ∧ (k = 0 ∧ a = 0 ∧ b = 0 ∧ c = 0) ∧ (ids = [] ∧ rows = [] ∧ nats = []) ∧ err = 16)
theorem ResMsg.unique {L : List Int} {k a b c k' a' b' c' : Int} {ids rows ids' rows' : List Int} {nats nats' : List (List Int)} {err err' : Int} (h : ResMsg L k a b c ids rows nats err) (h' : ResMsg L k' a' b' c' ids' rows' nats' err') (d : DigsN nats) (d' : DigsN nats') :
    ((k = k' ∧ a = a' ∧ b = b' ∧ c = c') ∧ ids = ids' ∧ rows = rows' ∧ nats = nats') ∧ err = err' := by
  rcases h with ⟨h1, h2, h3, rfl⟩ | ⟨h1, ⟨rfl, rfl, rfl, rfl⟩, ⟨rfl, rfl, rfl⟩, rfl⟩ <;> rcases h' with ⟨k1, k2, k3, rfl⟩ | ⟨k1, ⟨rfl, rfl, rfl, rfl⟩, ⟨rfl, rfl, rfl⟩, rfl⟩
  · exact ⟨h2.inj k2 h1 k1 d d', rfl⟩
  · exact absurd h3 (k1 _ _ _ _ _ _ _ h1 d h2)
  · exact absurd k3 (h1 _ _ _ _ _ _ _ k1 d' k2)
  · exact ⟨⟨⟨rfl, rfl, rfl, rfl⟩, rfl, rfl, rfl⟩, rfl⟩
/-- What a call that tells a message's bytes makes. -/
def WireT (k a b c : Int) (ids rows : List Int) (nats : List (List Int)) (w : World) (e : Ending) (w' : World) : Prop := ∃ a' l' c' ys err, e = .returned (.tuple #[.slice a' l' c', .int .i64 err]) ∧ Byts w' a' l' c' ys ∧ ResWire k a b c ids rows nats ys err ∧ ((a' = none → c' = 0) ∧ ∀ ad, a' = some ad → 0 < l' → w.heap.size ≤ ad.block ∧ IsB w' ad.block) ∧ Below w.heap.size w w'
end Go.Proofs.YtchmlfjjgehbkaaGreat

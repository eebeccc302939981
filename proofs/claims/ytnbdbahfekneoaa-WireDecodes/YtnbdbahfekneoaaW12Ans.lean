/-
  Messages as bytes: lists of numbers and of bytes, one behind the other; each is of one message alone.
-/
import Derived.Test.YtnbdbahfekneoaaC9A
namespace Go.Proofs.Ytnbdbahfekneoaa
open Go.RowKit

/-- Two codes at the beginning of the same bytes are the same. -/
theorem code_part {c c' x y : List Int} {n n' : Nat} (h : IsCode c n) (h' : IsCode c' n') (e : c ++ x = c' ++ y) : n = n' ∧ x = y := by
  obtain rfl := h.free h' (L := c ++ x) (List.prefix_append _ _) (by rw [e]; exact List.prefix_append _ _)
  exact ⟨h.num h', List.append_cancel_left e⟩
/-- The codes of numbers, one behind the other. -/
def CodesOf : List Nat → List Int → Prop
  | [], ys => ys = []
  | n :: l, ys => ∃ c r, IsCode c n ∧ CodesOf l r ∧ ys = c ++ r
theorem CodesOf.unique : ∀ {l : List Nat} {x y : List Int}, CodesOf l x → CodesOf l y → x = y
  | [], _, _, h, k => h.trans k.symm
  | n :: l, _, _, ⟨c, r, h1, h2, e1⟩, ⟨c', r', k1, k2, e2⟩ => by rw [e1, e2, h1.bytes k1, CodesOf.unique h2 k2]
theorem CodesOf.part : ∀ {l l' : List Nat} {x x' t t' : List Int}, CodesOf l x → CodesOf l' x' → l.length = l'.length → x ++ t = x' ++ t' → l = l' ∧ t = t'
  | [], [], x, x', t, t', h, h', _, e => by
    have e1 : x = [] := h
    have e2 : x' = [] := h'
    rw [e1, e2] at e
    exact ⟨rfl, by simpa using e⟩
  | [], _ :: _, _, _, _, _, _, _, hl, _ => by simp at hl
  | _ :: _, [], _, _, _, _, _, _, hl, _ => by simp at hl
  | n :: l, n' :: l', x, x', t, t', h, h', hl, e => by
    obtain ⟨c, r, h1, h2, e1⟩ := h
    obtain ⟨c', r', k1, k2, e2⟩ := h'
    rw [e1, e2, List.append_assoc, List.append_assoc] at e
    obtain ⟨rfl, e3⟩ := code_part h1 k1 e
    obtain ⟨rfl, e4⟩ := CodesOf.part h2 k2 (by simpa using hl) e3
    exact ⟨rfl, e4⟩
theorem CodesOf.ex : ∀ (l : List Nat), (∀ n, n ∈ l → n < 18446744073709551616) → ∃ ys, CodesOf l ys
  | [], _ => ⟨[], rfl⟩
  | n :: l, h => by
    obtain ⟨c, hc⟩ := code_ex 9 n (by
      have := h n (List.mem_cons_self ..)
      have : (128 : Nat) ^ 10 = 1180591620717411303424 := by decide
      show n < 128 ^ 10
      omega)
    obtain ⟨r, hr⟩ := CodesOf.ex l (fun m hm => h m (List.mem_cons_of_mem _ hm))
    exact ⟨c ++ r, c, r, hc, hr, rfl⟩
theorem CodesOf.snoc : ∀ {l : List Nat} {x c : List Int} {n : Nat}, CodesOf l x → IsCode c n → CodesOf (l ++ [n]) (x ++ c)
  | [], x, c, n, h, hc => by
    have e : x = [] := h
    rw [e]
    exact ⟨c, [], hc, rfl, by simp⟩
  | m :: l, x, c, n, ⟨d, r, h1, h2, e⟩, hc => ⟨d, r ++ c, h1, CodesOf.snoc h2 hc, by rw [e, List.append_assoc]⟩
/-- A list of numbers: how many they are, and they. -/
def IsLst (l : List Nat) (ys : List Int) : Prop := ∃ c r, IsCode c l.length ∧ CodesOf l r ∧ ys = c ++ r
theorem IsLst.unique {l : List Nat} {x y : List Int} (h : IsLst l x) (k : IsLst l y) : x = y := by
  obtain ⟨c, r, h1, h2, rfl⟩ := h
  obtain ⟨c', r', k1, k2, rfl⟩ := k
  rw [h1.bytes k1, h2.unique k2]
theorem IsLst.part {l l' : List Nat} {x x' t t' : List Int} (h : IsLst l x) (k : IsLst l' x') (e : x ++ t = x' ++ t') : l = l' ∧ t = t' := by
  obtain ⟨c, r, h1, h2, rfl⟩ := h
  obtain ⟨c', r', k1, k2, rfl⟩ := k
  rw [List.append_assoc, List.append_assoc] at e
  obtain ⟨e1, e2⟩ := code_part h1 k1 e
  exact h2.part k2 e1 e2
/-- Bytes, each with how many they are ahead, one behind the other. -/
def BlobsOf : List (List Int) → List Int → Prop
  | [], ys => ys = []
  | b :: l, ys => ∃ c r, IsCode c b.length ∧ BlobsOf l r ∧ ys = c ++ (b ++ r)
theorem BlobsOf.unique : ∀ {l : List (List Int)} {x y : List Int}, BlobsOf l x → BlobsOf l y → x = y
  | [], _, _, h, k => h.trans k.symm
  | b :: l, _, _, ⟨c, r, h1, h2, e1⟩, ⟨c', r', k1, k2, e2⟩ => by rw [e1, e2, h1.bytes k1, BlobsOf.unique h2 k2]
theorem BlobsOf.part : ∀ {l l' : List (List Int)} {x x' t t' : List Int}, BlobsOf l x → BlobsOf l' x' → l.length = l'.length → x ++ t = x' ++ t' → l = l' ∧ t = t'
  | [], [], x, x', t, t', h, h', _, e => by
    have e1 : x = [] := h
    have e2 : x' = [] := h'
    rw [e1, e2] at e
    exact ⟨rfl, by simpa using e⟩
  | [], _ :: _, _, _, _, _, _, _, hl, _ => by simp at hl
  | _ :: _, [], _, _, _, _, _, _, hl, _ => by simp at hl
  | b :: l, b' :: l', x, x', t, t', h, h', hl, e => by
    obtain ⟨c, r, h1, h2, e1⟩ := h
    obtain ⟨c', r', k1, k2, e2⟩ := h'
    rw [e1, e2, List.append_assoc, List.append_assoc, List.append_assoc, List.append_assoc] at e
    obtain ⟨e3, e4⟩ := code_part h1 k1 e
    obtain ⟨rfl, e5⟩ := List.append_inj e4 e3
    obtain ⟨rfl, e6⟩ := BlobsOf.part h2 k2 (by simpa using hl) e5
    exact ⟨rfl, e6⟩
theorem BlobsOf.snoc : ∀ {l : List (List Int)} {x c b : List Int}, BlobsOf l x → IsCode c b.length → BlobsOf (l ++ [b]) (x ++ (c ++ b))
  | [], x, c, b, h, hc => by
    have e : x = [] := h
    rw [e]
    exact ⟨c, [], hc, rfl, by simp⟩
  | d :: l, x, c, b, ⟨q, r, h1, h2, e⟩, hc => ⟨q, r ++ (c ++ b), h1, BlobsOf.snoc h2 hc, by rw [e, List.append_assoc, List.append_assoc]⟩
def IsBlobs (l : List (List Int)) (ys : List Int) : Prop := ∃ c r, IsCode c l.length ∧ BlobsOf l r ∧ ys = c ++ r
theorem IsBlobs.unique {l : List (List Int)} {x y : List Int} (h : IsBlobs l x) (k : IsBlobs l y) : x = y := by
  obtain ⟨c, r, h1, h2, rfl⟩ := h
  obtain ⟨c', r', k1, k2, rfl⟩ := k
  rw [h1.bytes k1, h2.unique k2]
theorem IsBlobs.part {l l' : List (List Int)} {x x' t t' : List Int} (h : IsBlobs l x) (k : IsBlobs l' x') (e : x ++ t = x' ++ t') : l = l' ∧ t = t' := by
  obtain ⟨c, r, h1, h2, rfl⟩ := h
  obtain ⟨c', r', k1, k2, rfl⟩ := k
  rw [List.append_assoc, List.append_assoc] at e
  obtain ⟨e1, e2⟩ := code_part h1 k1 e
  exact h2.part k2 e1 e2
/-- A message's bytes: four numbers, two lists of numbers, a list of bytes. -/
def IsWire (hd ids rows : List Nat) (nats : List (List Int)) (ys : List Int) : Prop := ∃ y0 y1 y2 y3, CodesOf hd y0 ∧ IsLst ids y1 ∧ IsLst rows y2 ∧ IsBlobs nats y3 ∧ ys = y0 ++ (y1 ++ (y2 ++ y3))
theorem IsWire.unique {hd ids rows : List Nat} {nats : List (List Int)} {x y : List Int} (h : IsWire hd ids rows nats x) (k : IsWire hd ids rows nats y) : x = y := by
  obtain ⟨y0, y1, y2, y3, h0, h1, h2, h3, rfl⟩ := h
  obtain ⟨z0, z1, z2, z3, k0, k1, k2, k3, rfl⟩ := k
  rw [h0.unique k0, h1.unique k1, h2.unique k2, h3.unique k3]
theorem IsWire.inj {hd hd' ids ids' rows rows' : List Nat} {nats nats' : List (List Int)} {x : List Int} (h : IsWire hd ids rows nats x) (k : IsWire hd' ids' rows' nats' x) (hl : hd.length = hd'.length) : hd = hd' ∧ ids = ids' ∧ rows = rows' ∧ nats = nats' := by
  obtain ⟨y0, y1, y2, y3, h0, h1, h2, h3, rfl⟩ := h
  obtain ⟨z0, z1, z2, z3, k0, k1, k2, k3, e⟩ := k
  obtain ⟨rfl, e1⟩ := h0.part k0 hl e
  obtain ⟨rfl, e2⟩ := h1.part k1 e1
  obtain ⟨rfl, e3⟩ := h2.part k2 e2
  obtain ⟨rfl, -⟩ := h3.part k3 (t := []) (t' := []) (by simpa using e3)
  exact ⟨rfl, rfl, rfl, rfl⟩
/-- Numbers are read, one behind the other. -/
theorem read_codes {n : Nat} {c R : List Int} {most : Nat} (h : IsCode c n) (hn : n < 18446744073709551616) (hm : n ≤ most) : ResNum (c ++ R) most n 0 R :=
  ⟨n, c.length, NextT.of_code h hn, .inr ⟨fun e => by
    rcases e with e | e
    · exact h.nonempty (List.eq_nil_of_length_eq_zero e)
    · omega, rfl, rfl, by simp⟩⟩
end Go.Proofs.Ytnbdbahfekneoaa

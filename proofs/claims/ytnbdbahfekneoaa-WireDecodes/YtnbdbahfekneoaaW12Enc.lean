/-
  A message's bytes, by definition; what is told of a message.
-/
import Derived.Test.YtnbdbahfekneoaaW12Mem
namespace Go.Proofs.Ytnbdbahfekneoaa
open Go.RowKit

/-- The bytes of natural numbers, one by one. -/
def NatsB (nats bss : List (List Int)) : Prop := bss.length = nats.length ∧ ∀ i, i < nats.length → ResBytes (nats.getD i []) (bss.getD i [])
theorem ext_getD {α : Type} {d : α} {xs ys : List α} (hl : xs.length = ys.length) (h : ∀ i, i < xs.length → xs.getD i d = ys.getD i d) : xs = ys := by
  refine List.ext_getElem hl (fun i h1 h2 => ?_)
  have := h i h1
  simpa [List.getD, h1, h2] using this
theorem NatsB.unique {nats x y : List (List Int)} (h : NatsB nats x) (k : NatsB nats y) : x = y :=
  ext_getD (d := []) (h.1.trans k.1.symm) (fun i hi => (h.2 i (by rw [← h.1]; exact hi)).unique (k.2 i (by rw [← h.1]; exact hi)))
theorem natbytes_inj {zs ys bs : List Int} (h : ResBytes zs bs) (k : ResBytes ys bs) (rz : rightB zs = true) (ry : rightB ys = true) (dz : Digs 18446744073709551616 zs) (dy : Digs 18446744073709551616 ys) : zs = ys := by
  unfold ResBytes at h k
  rw [if_pos rz] at h
  rw [if_pos ry] at k
  have top : ∀ {l : List Int}, rightB l = true → Top l := fun {l} r => by
    unfold rightB at r
    simp at r
    rcases r.2 with e | e
    · exact .inl e
    · exact .inr e
  exact val_inj (by decide) dz dy (top rz) (top ry) (h.2.2.symm.trans k.2.2)
theorem NatsB.inj {nats nats' bss : List (List Int)} (h : NatsB nats bss) (k : NatsB nats' bss) (r : ∀ i, i < nats.length → rightB (nats.getD i []) = true) (r' : ∀ i, i < nats'.length → rightB (nats'.getD i []) = true) (d : ∀ i, i < nats.length → Digs 18446744073709551616 (nats.getD i [])) (d' : ∀ i, i < nats'.length → Digs 18446744073709551616 (nats'.getD i [])) : nats = nats' := by
  have e : nats.length = nats'.length := h.1.symm.trans k.1
  exact ext_getD (d := []) e (fun i hi => natbytes_inj (h.2 i hi) (k.2 i (by omega)) (r i hi) (r' i (by omega)) (d i hi) (d' i (by omega)))
/-- Whole numbers that are natural ones. -/
def nat0 (xs : List Int) : List Nat := xs.map Int.toNat
theorem nat0_len (xs : List Int) : (nat0 xs).length = xs.length := by simp [nat0]
theorem nat0_ints {xs : List Int} (h : ∀ i, i < xs.length → 0 ≤ xs.getD i 0 ∧ xs.getD i 0 ≤ 1073741824) : ints (nat0 xs) = xs := by
  refine ext_getD (d := 0) (by rw [ints_len, nat0_len]) (fun i hi => ?_)
  rw [ints_len, nat0_len] at hi
  rw [ints_get]
  have := (h i hi).1
  simp [nat0, List.getD, hi] at this ⊢
  omega
theorem nat0_le {xs : List Int} (h : ∀ i, i < xs.length → 0 ≤ xs.getD i 0 ∧ xs.getD i 0 ≤ 1073741824) : ∀ n, n ∈ nat0 xs → n ≤ 1073741824 := by
  intro n hn
  unfold nat0 at hn
  obtain ⟨x, hx, rfl⟩ := List.mem_map.1 hn
  obtain ⟨i, hi, rfl⟩ := List.getElem_of_mem hx
  have := h i hi
  simp [List.getD, hi] at this
  omega
theorem nat0_inj {xs ys : List Int} (h : ∀ i, i < xs.length → 0 ≤ xs.getD i 0 ∧ xs.getD i 0 ≤ 1073741824) (k : ∀ i, i < ys.length → 0 ≤ ys.getD i 0 ∧ ys.getD i 0 ≤ 1073741824) (e : nat0 xs = nat0 ys) : xs = ys := by
  rw [← nat0_ints h, ← nat0_ints k, e]
/-- A message's bytes. -/
def IsMsg (k a b c : Int) (ids rows : List Int) (nats : List (List Int)) (ys : List Int) : Prop := ∃ bss, NatsB nats bss ∧ IsWire [k.toNat, a.toNat, b.toNat, c.toNat] (nat0 ids) (nat0 rows) bss ys
theorem IsMsg.unique {k a b c : Int} {ids rows : List Int} {nats : List (List Int)} {x y : List Int} (h : IsMsg k a b c ids rows nats x) (h' : IsMsg k a b c ids rows nats y) : x = y := by
  obtain ⟨bss, h1, h2⟩ := h
  obtain ⟨bss', k1, k2⟩ := h'
  rw [h1.unique k1] at h2
  exact h2.unique k2
/-- Its natural numbers are ones of 64 bits a limb. -/
def DigsN (nats : List (List Int)) : Prop := ∀ i, i < nats.length → Digs 18446744073709551616 (nats.getD i [])
theorem NRow.digs {w : World} {a : Option Addr} {len cap : Nat} {ns : List (List Int)} (h : NRow w a len cap ns) : DigsN ns := fun i hi => by
  have hl := h.hlen
  obtain ⟨b, off, e, hc⟩ := h.cells (by omega)
  obtain ⟨p, l, c, _, h2⟩ := hc i (by omega)
  exact h2.digs
theorem IsMsg.inj {k a b c k' a' b' c' : Int} {ids rows ids' rows' : List Int} {nats nats' : List (List Int)} {x : List Int} (h : IsMsg k a b c ids rows nats x) (h' : IsMsg k' a' b' c' ids' rows' nats' x) (r : RightM k a b c ids rows nats) (r' : RightM k' a' b' c' ids' rows' nats') (d : DigsN nats) (d' : DigsN nats') :
    (k = k' ∧ a = a' ∧ b = b' ∧ c = c') ∧ ids = ids' ∧ rows = rows' ∧ nats = nats' := by
  obtain ⟨bss, h1, h2⟩ := h
  obtain ⟨bss', k1, k2⟩ := h'
  obtain ⟨e1, e2, e3, rfl⟩ := h2.inj k2 rfl
  have p := r.p1
  have q := r'.p1
  simp at e1
  refine ⟨by omega, nat0_inj r.p6 r'.p6 e2, nat0_inj (fun i hi => ⟨(r.p7 i hi).1, (r.p7 i hi).2.1⟩) (fun i hi => ⟨(r'.p7 i hi).1, (r'.p7 i hi).2.1⟩) e3, h1.inj k1 (fun i hi => (r.p8 i hi).1) (fun i hi => (r'.p8 i hi).1) d d'⟩
/-- What is told of a message's bytes. -/
def ResWire (k a b c : Int) (ids rows : List Int) (nats : List (List Int)) (ys : List Int) (err : Int) : Prop :=
  (RightM k a b c ids rows nats ∧ IsMsg k a b c ids rows nats ys ∧ ys.length ≤ 1048576 ∧ err = 0) ∨ (¬ (RightM k a b c ids rows nats ∧ ∃ x, IsMsg k a b c ids rows nats x ∧ x.length ≤ 1048576) ∧ ys = [] ∧ err = 16)
theorem ResWire.unique {k a b c : Int} {ids rows : List Int} {nats : List (List Int)} {ys ys' : List Int} {err err' : Int} (h : ResWire k a b c ids rows nats ys err) (h' : ResWire k a b c ids rows nats ys' err') : ys = ys' ∧ err = err' := by
  rcases h with ⟨h1, h2, h3, rfl⟩ | ⟨h1, rfl, rfl⟩ <;> rcases h' with ⟨k1, k2, k3, rfl⟩ | ⟨k1, rfl, rfl⟩
  · exact ⟨h2.unique k2, rfl⟩
  · exact absurd ⟨h1, _, h2, h3⟩ k1
  · exact absurd ⟨k1, _, k2, k3⟩ h1
  · exact ⟨rfl, rfl⟩
/-- What is told of the message that bytes are. -/
def ResMsg (L : List Int) (k a b c : Int) (ids rows : List Int) (nats : List (List Int)) (err : Int) : Prop :=
  (RightM k a b c ids rows nats ∧ IsMsg k a b c ids rows nats L ∧ L.length ≤ 1048576 ∧ err = 0) ∨
  ((∀ k a b c ids rows nats, RightM k a b c ids rows nats → DigsN nats → IsMsg k a b c ids rows nats L → ¬ L.length ≤ 1048576) ∧ (k = 0 ∧ a = 0 ∧ b = 0 ∧ c = 0) ∧ (ids = [] ∧ rows = [] ∧ nats = []) ∧ err = 16)
theorem ResMsg.unique {L : List Int} {k a b c k' a' b' c' : Int} {ids rows ids' rows' : List Int} {nats nats' : List (List Int)} {err err' : Int} (h : ResMsg L k a b c ids rows nats err) (h' : ResMsg L k' a' b' c' ids' rows' nats' err') (d : DigsN nats) (d' : DigsN nats') :
    ((k = k' ∧ a = a' ∧ b = b' ∧ c = c') ∧ ids = ids' ∧ rows = rows' ∧ nats = nats') ∧ err = err' := by
  rcases h with ⟨h1, h2, h3, rfl⟩ | ⟨h1, ⟨rfl, rfl, rfl, rfl⟩, ⟨rfl, rfl, rfl⟩, rfl⟩ <;> rcases h' with ⟨k1, k2, k3, rfl⟩ | ⟨k1, ⟨rfl, rfl, rfl, rfl⟩, ⟨rfl, rfl, rfl⟩, rfl⟩
  · exact ⟨h2.inj k2 h1 k1 d d', rfl⟩
  · exact absurd h3 (k1 _ _ _ _ _ _ _ h1 d h2)
  · exact absurd k3 (h1 _ _ _ _ _ _ _ k1 d' k2)
  · exact ⟨⟨⟨rfl, rfl, rfl, rfl⟩, rfl, rfl, rfl⟩, rfl⟩
/-- What a call that tells a message's bytes makes. -/
def WireT (k a b c : Int) (ids rows : List Int) (nats : List (List Int)) (w : World) (e : Ending) (w' : World) : Prop := ∃ a' l' c' ys err, e = .returned (.tuple #[.slice a' l' c', .int .i64 err]) ∧ Byts w' a' l' c' ys ∧ ResWire k a b c ids rows nats ys err ∧ ((a' = none → c' = 0) ∧ ∀ ad, a' = some ad → 0 < l' → w.heap.size ≤ ad.block ∧ IsB w' ad.block) ∧ Below w.heap.size w w'
end Go.Proofs.Ytnbdbahfekneoaa

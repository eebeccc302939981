/-
  What a decoding keeps in memory: lists and natural numbers lie in blocks of their own kind; a message's variable.
-/
import Derived.Test.YtnbdbahfekneoaaRef12F
import Derived.Test.YtnbdbahfekneoaaRef12S
namespace Go.Proofs.Ytnbdbahfekneoaa
open Go.RowKit

/-- Block b is one of whole numbers, of words or of bytes. -/
def Plain (w : World) (b : Nat) : Prop := ∃ cur t, w.heap[b]? = some (.cells cur t (0, 0)) ∧ (t = 3 ∨ t = 54 ∨ t = 5)
theorem Plain.lt {w : World} {b : Nat} (h : Plain w b) : b < w.heap.size := by
  obtain ⟨cur, t, h, _⟩ := h
  exact (Array.getElem?_eq_some_iff.1 h).1
/-- Such blocks stay. -/
structure Kp (w w' : World) : Prop where
  size : w.heap.size ≤ w'.heap.size
  block : ∀ b, Plain w b → w'.heap[b]? = w.heap[b]?
theorem Plain.kp {w w' : World} {b : Nat} (h : Plain w b) (k : Kp w w') : Plain w' b := by
  have e := k.block b h
  obtain ⟨cur, t, h1, h2⟩ := h
  exact ⟨cur, t, e.trans h1, h2⟩
theorem Kp.refl (w : World) : Kp w w := ⟨Nat.le_refl _, fun _ _ => rfl⟩
theorem Kp.trans {w w1 w2 : World} (h : Kp w w1) (k : Kp w1 w2) : Kp w w2 := ⟨Nat.le_trans h.size k.size, fun b hb => (k.block b (hb.kp h)).trans (h.block b hb)⟩
theorem Kp.below {w w' : World} (h : Below w.heap.size w w') : Kp w w' := ⟨h.size, fun b hb => h.block b hb.lt⟩
theorem Kp.grown {w w' : World} {r : Option Nat} (h : w.grownBy w' r) (hr : ∀ k, r = some k → ¬ Plain w k) : Kp w w' := ⟨h.size, fun b hb => h.block b hb.lt (fun e => hr b e.symm hb)⟩
theorem not_plain {w : World} {b : Nat} {cur : Array Value} {t : TypeId} {m : Nat × Nat} (h : w.heap[b]? = some (.cells cur t m)) (h1 : t ≠ 3) (h2 : t ≠ 54) (h3 : t ≠ 5) : ¬ Plain w b := by
  rintro ⟨cur', t', k1, k2⟩
  rw [h] at k1
  simp at k1
  obtain ⟨_, rfl, _⟩ := k1
  rcases k2 with e | e | e
  · exact h1 e
  · exact h2 e
  · exact h3 e
/-- A list of whole numbers in a block of such; a natural number in a block of words. -/
structure LstG (w : World) (a : Option Addr) (l c : Nat) (xs : List Int) : Prop where
  lsts : Lsts w a l c xs
  plain : ∀ ad, a = some ad → 0 < l → Plain w ad.block
theorem LstG.kp {w w' : World} {a : Option Addr} {l c : Nat} {xs : List Int} (h : LstG w a l c xs) (k : Kp w w') : LstG w' a l c xs :=
  ⟨⟨h.lsts.hlen, h.lsts.hcap, h.lsts.hmax, fun hp => by
    obtain ⟨b, off, e, hc⟩ := h.lsts.cells hp
    exact ⟨b, off, e, fun i hi => (World.cell?_of_block (k.block b (h.plain _ e hp))).trans (hc i hi)⟩, h.lsts.word⟩, fun ad e hp => (h.plain ad e hp).kp k⟩
theorem LstG.nil (w : World) : LstG w none 0 0 [] := ⟨Lsts.nil _, fun _ e => (by cases e)⟩
structure NumG (w : World) (a : Option Addr) (l c : Nat) (zs : List Int) : Prop where
  nums : Nums w a l c zs
  plain : ∀ ad, a = some ad → 0 < l → Plain w ad.block
theorem NumG.kp {w w' : World} {a : Option Addr} {l c : Nat} {zs : List Int} (h : NumG w a l c zs) (k : Kp w w') : NumG w' a l c zs := by
  refine ⟨⟨h.nums.hlen, h.nums.hcap, h.nums.hmax, fun hp => ?_, h.nums.digs⟩, fun ad e hp => (h.plain ad e hp).kp k⟩
  obtain ⟨b, off, e, hc⟩ := h.nums.cells hp
  exact ⟨b, off, e, fun i hi => (World.cell?_of_block (k.block b (h.plain _ e hp))).trans (hc i hi)⟩
/-- A row of natural numbers of a call's own. -/
def NOwn (w : World) (base : Nat) (v : Value) (ns : List (List Int)) : Prop := ∃ vs : List Value, w.ownsRow base 47 1 v ns.length vs ∧ ∀ i, i < ns.length → ∃ p l c, vs[i]? = some (.slice p l c) ∧ NumG w p l c (ns.getD i [])
theorem NOwn.nil (w : World) (base : Nat) : NOwn w base (.slice none 0 0) [] := ⟨[], World.ownsRow_nil _ _ _ _, fun i hi => absurd hi (by simp)⟩
theorem NOwn.grown {w w' : World} {base : Nat} {v : Value} {ns : List (List Int)} {k : Nat} (h : NOwn w base v ns) (hg : w.grownBy w' (some k)) (hk : k < base) (hp : ¬ Plain w k) : NOwn w' base v ns := by
  obtain ⟨vs, h1, h2⟩ := h
  refine ⟨vs, World.ownsRow.kept h1 hg ?_, fun i hi => ?_⟩
  · cases e : v.ownBlock with
    | none => exact .inl rfl
    | some q =>
      right
      intro e2
      have := (World.ownsRow.lt h1 q e).1
      have := Option.some.inj e2
      omega
  · obtain ⟨p, l, c, e, hn⟩ := h2 i hi
    exact ⟨p, l, c, e, hn.kp (Kp.grown hg (fun k' e' => by cases e'; exact hp))⟩
theorem NOwn.below {w w' : World} {base : Nat} {v : Value} {ns : List (List Int)} (h : NOwn w base v ns) (hb : Below w.heap.size w w') : NOwn w' base v ns := by
  obtain ⟨vs, h1, h2⟩ := h
  refine ⟨vs, World.ownsRow.kept h1 (grown_of_below hb none) ?_, fun i hi => ?_⟩
  · cases e : v.ownBlock with
    | none => exact .inl rfl
    | some q => right; intro e2; cases e2
  · obtain ⟨p, l, c, e, hn⟩ := h2 i hi
    exact ⟨p, l, c, e, hn.kp (Kp.below hb)⟩
theorem NOwn.row {w : World} {base : Nat} {v : Value} {ns : List (List Int)} (h : NOwn w base v ns) : ∃ a c, v = .slice a ns.length c ∧ NRow w a ns.length c ns ∧ (a = none → c = 0) := by
  obtain ⟨vs, h1, h2⟩ := h
  rcases h1.2 with ⟨rfl, hn⟩ | ⟨g, cap, cur, rfl, _, hg, hnc, hcm, _, htk⟩
  · have e : ns = [] := List.eq_nil_of_length_eq_zero hn
    subst e
    exact ⟨none, 0, rfl, NRow.nil _, fun _ => rfl⟩
  · refine ⟨_, cap, rfl, ⟨rfl, hnc, hcm, fun _ => ⟨g, 0, rfl, fun i hi => ?_⟩⟩, fun e => (by cases e)⟩
    obtain ⟨p, l, c, e, hn⟩ := h2 i hi
    refine ⟨p, l, c, ?_, hn.nums⟩
    rw [Nat.zero_add, cell_of_row w g i cur _ _ hg]
    rw [← htk, List.getElem?_take] at e
    split at e
    · simpa using e
    · cases e
/-- A message's variable. -/
def MsgAt (w : World) (g : Nat) (k a b c : Int) (pi : Option Addr) (li ci : Nat) (pr : Option Addr) (lr cr : Nat) (pn : Option Addr) (ln cn : Nat) : Prop := w.heap[g]? = some (.cells #[.int .i64 k, .int .i64 a, .int .i64 b, .int .i64 c, .slice pi li ci, .slice pr lr cr, .slice pn ln cn] 25 (0, 0))
theorem MsgAt.lt {w : World} {g : Nat} {k a b c : Int} {pi pr pn : Option Addr} {li ci lr cr ln cn : Nat} (h : MsgAt w g k a b c pi li ci pr lr cr pn ln cn) : g < w.heap.size := (Array.getElem?_eq_some_iff.1 h).1
theorem MsgAt.kept {w w' : World} {g : Nat} {k a b c : Int} {pi pr pn : Option Addr} {li ci lr cr ln cn : Nat} (h : MsgAt w g k a b c pi li ci pr lr cr pn ln cn) (e : w'.heap[g]? = w.heap[g]?) : MsgAt w' g k a b c pi li ci pr lr cr pn ln cn := e.trans h
theorem MsgAt.plain {w : World} {g : Nat} {k a b c : Int} {pi pr pn : Option Addr} {li ci lr cr ln cn : Nat} (h : MsgAt w g k a b c pi li ci pr lr cr pn ln cn) : ¬ Plain w g := not_plain h (by decide) (by decide) (by decide)
theorem MsgAt.cells {w : World} {g : Nat} {k a b c : Int} {pi pr pn : Option Addr} {li ci lr cr ln cn : Nat} (h : MsgAt w g k a b c pi li ci pr lr cr pn ln cn) :
    (w.cell? ⟨g, 0, none⟩ = some (.int .i64 k) ∧ w.cell? ⟨g, 1, none⟩ = some (.int .i64 a) ∧ w.cell? ⟨g, 2, none⟩ = some (.int .i64 b) ∧ w.cell? ⟨g, 3, none⟩ = some (.int .i64 c) ∧ w.cell? ⟨g, 4, none⟩ = some (.slice pi li ci) ∧ w.cell? ⟨g, 5, none⟩ = some (.slice pr lr cr) ∧ w.cell? ⟨g, 6, none⟩ = some (.slice pn ln cn)) ∧ ∀ j, w.frozen? ⟨g, j, none⟩ = false := by
  refine ⟨⟨?_, ?_, ?_, ?_, ?_, ?_, ?_⟩, fun j => frozen_of_row w g j _ _ h⟩ <;> (rw [cell_of_row w g _ _ _ _ h]; rfl)
theorem MsgAt.new (w : World) (k a b c : Int) (pi pr pn : Option Addr) (li ci lr cr ln cn : Nat) : MsgAt (w.alloc (.cells #[.int .i64 k, .int .i64 a, .int .i64 b, .int .i64 c, .slice pi li ci, .slice pr lr cr, .slice pn ln cn] 25)) w.heap.size k a b c pi li ci pr lr cr pn ln cn := heap_alloc_new _ _
theorem MsgAt.set6 {w : World} {g : Nat} {k a b c : Int} {pi pr pn : Option Addr} {li ci lr cr ln cn : Nat} (h : MsgAt w g k a b c pi li ci pr lr cr pn ln cn) (p : Option Addr) (l m : Nat) : MsgAt (w.setCell ⟨g, 6, none⟩ (.slice p l m)) g k a b c pi li ci pr lr cr p l m := by
  have := heap_setCell_same w g 6 _ _ (.slice p l m) h
  simpa [MsgAt] using this
/-- What a call that tells the message of bytes makes. -/
def MDecT (L : List Int) (w : World) (e : Ending) (w' : World) : Prop := ∃ k a b c pi li ci pr lr cr pn ln cn ids rows nats err, e = .returned (.tuple #[.agg #[.int .i64 k, .int .i64 a, .int .i64 b, .int .i64 c, .slice pi li ci, .slice pr lr cr, .slice pn ln cn], .int .i64 err]) ∧ (Lsts w' pi li ci ids ∧ Lsts w' pr lr cr rows ∧ NRow w' pn ln cn nats) ∧ ResMsg L k a b c ids rows nats err ∧ Below w.heap.size w w'
end Go.Proofs.Ytnbdbahfekneoaa

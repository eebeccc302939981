/-
  What a call may turn: footprints of blocks; bytes, and rows of them, which lie in blocks of bytes.
-/
import Derived.Test.YtnbdbahfekneoaaC9A
import Derived.Maps.AppendAt
namespace Go.Proofs.Ytnbdbahfekneoaa
open Go.RowKit

/-- Blocks of T alone have turned, and new ones came. -/
structure Only (T : Nat → Prop) (w w' : World) : Prop where
  os : w'.os = w.os
  tape : w'.tape = w.tape
  output : w'.output = w.output
  size : w.heap.size ≤ w'.heap.size
  block : ∀ b, b < w.heap.size → ¬ T b → w'.heap[b]? = w.heap[b]?
theorem Only.refl (T : Nat → Prop) (w : World) : Only T w w := ⟨rfl, rfl, rfl, Nat.le_refl _, fun _ _ _ => rfl⟩
theorem Only.of_below {T : Nat → Prop} {w w' : World} (h : Below w.heap.size w w') : Only T w w' := ⟨h.os, h.tape, h.output, h.size, fun b hb _ => h.block b hb⟩
theorem Only.of_grown {T : Nat → Prop} {w w' : World} {row : Option Nat} (h : w.grownBy w' row) (hT : ∀ b, row = some b → T b) : Only T w w' := ⟨h.os, h.tape, h.output, h.size, fun b hb hn => h.block b hb (fun e => hn (hT b e.symm))⟩
theorem Only.trans {T T' : Nat → Prop} {a b c : World} (h : Only T a b) (k : Only T' b c) (hT : ∀ q, T' q → T q ∨ a.heap.size ≤ q) : Only T a c :=
  ⟨k.os.trans h.os, k.tape.trans h.tape, k.output.trans h.output, Nat.le_trans h.size k.size, fun q hq hn => (k.block q (Nat.lt_of_lt_of_le hq h.size) (fun e => by
    rcases hT q e with e | e
    · exact hn e
    · omega)).trans (h.block q hq hn)⟩
theorem Only.wide {T T' : Nat → Prop} {w w' : World} (h : Only T w w') (hT : ∀ q, T q → T' q) : Only T' w w' := ⟨h.os, h.tape, h.output, h.size, fun q hq hn => h.block q hq (fun e => hn (hT q e))⟩
theorem Only.below {T : Nat → Prop} {B : Nat} {w w' : World} (h : Only T w w') (hT : ∀ b, T b → B ≤ b) (hB : B ≤ w.heap.size) : Below B w w' :=
  ⟨h.os, h.tape, h.output, h.size, fun k hk => h.block k (by omega) (fun e => by have := hT k e; omega)⟩
theorem Only.drew {T : Nat → Prop} {w w' : World} (h : Only T w w') : Only T w w'.drew := ⟨h.os, h.tape, h.output, h.size, h.block⟩
theorem Only.cell {T : Nat → Prop} {w w' : World} (h : Only T w w') {p : Addr} {v : Value} (hp : w.cell? p = some v) (hn : ¬ T p.block) : w'.cell? p = some v :=
  (World.cell?_of_block (h.block p.block (World.block_lt_of_cell? w p hp) hn)).trans hp

/-- Bytes in a block of bytes. -/
structure BytG (w : World) (a : Option Addr) (l c : Nat) (bs : List Int) : Prop where
  byts : Byts w a l c bs
  nil : a = none → c = 0
  isb : IsBs w a l
theorem BytG.only {C : Nat → Prop} {w w' : World} {a : Option Addr} {l c : Nat} {bs : List Int} (h : BytG w a l c bs) (k : Only C w w') (hC : ∀ b, C b → ¬ IsB w b) : BytG w' a l c bs := by
  refine ⟨⟨h.byts.hlen, h.byts.hcap, h.byts.hmax, fun h0 => ?_, h.byts.word⟩, h.nil, fun ad e h0 => ?_⟩
  · obtain ⟨b, off, e, hc⟩ := h.byts.cells h0
    exact ⟨b, off, e, fun i hi => k.cell (hc i hi) (fun q => hC b q (h.isb _ e h0))⟩
  · have := h.isb ad e h0
    exact this.kept (k.block _ this.lt (fun q => hC _ q this))
theorem BytG.below {w w' : World} {a : Option Addr} {l c : Nat} {bs : List Int} (h : BytG w a l c bs) (hb : Below w.heap.size w w') : BytG w' a l c bs := h.only (Only.of_below (T := fun _ => False) hb) (fun _ e => e.elim)
/-- What is no block of bytes stays so. -/
theorem IsB.back {C : Nat → Prop} {w w' : World} {b : Nat} (k : Only C w w') (hb : b < w.heap.size) (hn : ¬ C b) (h : ¬ IsB w b) : ¬ IsB w' b := fun ⟨cur, e⟩ => h ⟨cur, (k.block b hb hn).symm.trans e⟩
theorem row_notB {w : World} {base : Nat} {t : TypeId} {size : Nat} {v : Value} {n : Nat} {xs : List Value} (h : w.ownsRow base t size v n xs) (ht : t ≠ 5) : ∀ b, v.ownBlock = some b → ¬ IsB w b := fun b e => by
  rcases h.2 with ⟨rfl, _⟩ | ⟨g, cap, cur, rfl, _, hg, _⟩
  · simp [Value.ownBlock] at e
  · simp [Value.ownBlock] at e
    subst e
    exact IsB.not hg ht
/-- A row whose block is its own stays, as long as that is not turned. -/
theorem row_only {C : Nat → Prop} {w w' : World} {base : Nat} {t : TypeId} {size : Nat} {v : Value} {n : Nat} {xs : List Value} (h : w.ownsRow base t size v n xs) (k : Only C w w') (hv : ∀ b, v.ownBlock = some b → ¬ C b) : w'.ownsRow base t size v n xs := by
  refine ⟨h.1, ?_⟩
  rcases h.2 with hn | ⟨g, cap, cur, rfl, hb, hg, rest⟩
  · exact .inl hn
  · refine .inr ⟨g, cap, cur, rfl, hb, ?_, rest⟩
    rw [k.block g (Array.getElem?_eq_some_iff.1 hg).1 (hv g rfl)]
    exact hg
/-- A row of rows of bytes, its block its own. -/
def RowB (w : World) (v : Value) (Ls : List (List Int)) : Prop := ∃ vs : List Value, w.ownsRow 0 28 1 v Ls.length vs ∧ ∀ i, i < Ls.length → ∃ p n c, vs[i]? = some (.slice p n c) ∧ BytG w p n c (Ls.getD i [])
theorem RowB.nil (w : World) : RowB w (.slice none 0 0) [] := ⟨[], World.ownsRow_nil _ _ _ _, fun i hi => absurd hi (by simp)⟩
theorem RowB.slice {w : World} {v : Value} {Ls : List (List Int)} (h : RowB w v Ls) : ∃ a c, v = .slice a Ls.length c ∧ (a = none → c = 0) ∧ Ls.length ≤ c ∧ c ≤ maxLen := by
  obtain ⟨vs, h1, _⟩ := h
  rcases h1.2 with ⟨rfl, hn⟩ | ⟨g, cap, cur, rfl, _, _, hnc, hcm, _⟩
  · exact ⟨none, 0, by rw [hn], fun _ => rfl, by omega, Nat.zero_le _⟩
  · exact ⟨_, cap, rfl, fun e => (by cases e), hnc, hcm⟩
theorem RowB.only {C : Nat → Prop} {w w' : World} {v : Value} {Ls : List (List Int)} (h : RowB w v Ls) (k : Only C w w') (hv : ∀ b, v.ownBlock = some b → ¬ C b) (hC : ∀ b, C b → ¬ IsB w b) : RowB w' v Ls := by
  obtain ⟨vs, h1, h2⟩ := h
  refine ⟨vs, row_only h1 k hv, fun i hi => ?_⟩
  obtain ⟨p, n, c, e, hb⟩ := h2 i hi
  exact ⟨p, n, c, e, hb.only k hC⟩
theorem RowB.lt {w : World} {v : Value} {Ls : List (List Int)} (h : RowB w v Ls) : ∀ b, v.ownBlock = some b → b < w.heap.size := fun b e => by
  obtain ⟨vs, h1, _⟩ := h
  exact (World.ownsRow.lt h1 b e).2
theorem RowB.notB {w : World} {v : Value} {Ls : List (List Int)} (h : RowB w v Ls) : ∀ b, v.ownBlock = some b → ¬ IsB w b := by
  obtain ⟨vs, h1, _⟩ := h
  exact row_notB h1 (by decide)
/-- The bytes of one row. -/
theorem RowB.at {w : World} {v : Value} {Ls : List (List Int)} (h : RowB w v Ls) {i : Nat} (hi : i < Ls.length) : ∃ g cap p n c, v = .slice (some ⟨g, 0, none⟩) Ls.length cap ∧ w.cell? ⟨g, i, none⟩ = some (.slice p n c) ∧ BytG w p n c (Ls.getD i []) := by
  obtain ⟨vs, h1, h2⟩ := h
  obtain ⟨p, n, c, e, hb⟩ := h2 i hi
  rcases h1.2 with ⟨rfl, hn⟩ | ⟨g, cap, cur, rfl, _, hg, _, _, _, htk⟩
  · omega
  · refine ⟨g, cap, p, n, c, rfl, ?_, hb⟩
    rw [cell_of_row w g i cur _ _ hg]
    rw [← htk, List.getElem?_take] at e
    split at e
    · simpa using e
    · cases e
/-- One row more. -/
theorem RowB.snoc {w : World} {v : Value} {Ls : List (List Int)} {vs : List Value} {p : Option Addr} {n c : Nat} {bs : List Int} (h1 : w.ownsRow 0 28 1 v (Ls.length + 1) (vs ++ [.slice p n c])) (hl : vs.length = Ls.length) (h2 : ∀ i, i < Ls.length → ∃ p n c, vs[i]? = some (.slice p n c) ∧ BytG w p n c (Ls.getD i [])) (h3 : BytG w p n c bs) : RowB w v (Ls ++ [bs]) := by
  refine ⟨vs ++ [.slice p n c], by simpa using h1, fun i hi => ?_⟩
  by_cases q : i < Ls.length
  · obtain ⟨p', n', c', e, hb⟩ := h2 i q
    refine ⟨p', n', c', by rw [List.getElem?_append_left (by omega)]; exact e, ?_⟩
    rw [show (Ls ++ [bs]).getD i [] = Ls.getD i [] by unfold List.getD; rw [List.getElem?_append_left q]]
    exact hb
  · obtain rfl : i = Ls.length := by simp at hi; omega
    refine ⟨p, n, c, by rw [List.getElem?_append_right (by omega), hl]; simp, ?_⟩
    rw [show (Ls ++ [bs]).getD Ls.length [] = bs by simp [List.getD]]
    exact h3
end Go.Proofs.Ytnbdbahfekneoaa

/-
  What is read of a code is what it was made of.
  What a call may turn: footprints of blocks; bytes, and rows of them, which lie in blocks of bytes.
  Contracts of slices.Grow and slices.Concat of bytes.
-/
import Derived.Test.YtchmlfjjgehbkaaC9A
import Derived.Maps.AppendAt
import Derived.Test.YtchmlfjjgehbkaaNatA
import Derived.Test.YtchmlfjjgehbkaaModA
import Derived.Lib.AppendZeros
namespace Go.Proofs.Ytchmlfjjgehbkaa
open Go.RowKit

theorem back_num {c R : List Int} {n : Nat} (h : IsCode c n) (hn : n < 18446744073709551616) : ResNum (c ++ R) n n 0 R :=
  ⟨n, c.length, NextT.of_code h hn, .inr ⟨fun e => by
    rcases e with e | e
    · exact h.nonempty (List.eq_nil_of_length_eq_zero e)
    · omega, rfl, rfl, by simp⟩⟩
theorem zag_zig (x : Int) : zag (zig x) = x := by
  unfold zag zig
  split <;> split <;> omega
theorem zig_half (x : Int) : (((zig x + 1) / 2 : Nat) : Int) = if x < 0 then -x else x := by
  unfold zig
  split <;> split <;> omega
theorem back_int {c R : List Int} {x most : Int} (h : IsCode c (zig x)) (hx : -9223372036854775808 ≤ x ∧ x < 9223372036854775808) (hm : most = if x < 0 then -x else x) : ResIntR (c ++ R) most x 0 R :=
  ⟨zig x, c.length, NextT.of_code h (zig_lt hx), .inr ⟨fun e => by
    rcases e with e | e | e
    · exact h.nonempty (List.eq_nil_of_length_eq_zero e)
    · rw [hm] at e; split at e <;> omega
    · rw [zig_half, ← hm] at e; omega, (zag_zig x).symm, rfl, by simp⟩⟩
theorem back_byt {c bs : List Int} (h : IsCode c bs.length) (hn : bs.length < 18446744073709551616) : ResBytR (c ++ bs) (bs.length : Int) bs 0 [] :=
  ⟨bs.length, c.length, NextT.of_code h hn, .inr ⟨fun e => by
    rcases e with e | e | e | e
    · exact h.nonempty (List.eq_nil_of_length_eq_zero e)
    · omega
    · omega
    · simp at e, by simp, rfl, by simp⟩⟩
theorem nil9 {a : Option Addr} {n c : Nat} (h : Value.slice a n c ≠ .slice none 0 0 → a ≠ none) : a = none → c = 0 := fun e => by
  by_cases q : Value.slice a n c = .slice none 0 0
  · injection q
  · exact absurd e (h q)
theorem own9 {w w' : World} {base : Nat} {v : Value} {zs : List Int} (h : BOwn w base v zs) (hb : Below w.heap.size w w') : BOwn w' base v zs := by
  refine World.ownsRow.kept h (grown_of_below hb none) ?_
  cases hv : v.ownBlock with
  | none => exact .inl rfl
  | some k => right; intro e; cases e
end Go.Proofs.Ytchmlfjjgehbkaa

namespace Go.Proofs.Ytchmlfjjgehbkaa
open Go.RowKit

/-- Blocks of T alone have turned, and new ones came. -/
structure Only (T : Nat → Prop) (w w' : World) : Prop where
  os : w'.os = w.os
  tape : w'.tape = w.tape
  output : w'.output = w.output
  size : w.heap.size ≤ w'.heap.size
  block : ∀ b, b < w.heap.size → ¬ T b → w'.heap[b]? = w.heap[b]?
theorem Only.refl (T : Nat → Prop) (w : World) : Only T w w := ⟨rfl, rfl, rfl, Nat.le_refl _, fun _ _ _ => rfl⟩
theorem Only.of_below {T : Nat → Prop} {w w' : World} (h : Below w.heap.size w w') : Only T w w' := ⟨h.os, h.tape, h.output, h.size, fun b hb _ => h.block b hb⟩
theorem Only.of_grown {T : Nat → Prop} {w w' : World} {row : Option Nat} (h : w.grownBy w' row) (hT : ∀ b, row = some b → T b) : Only T w w' := ⟨h.os, h.tape, h.output, h.size, fun b hb hn => h.block b hb (fun e => hn (hT b e.symm))⟩
theorem Only.trans {T T' : Nat → Prop} {a b c : World} (h : Only T a b) (k : Only T' b c) (hT : ∀ q, T' q → T q ∨ a.heap.size ≤ q) : Only T a c :=
  ⟨k.os.trans h.os, k.tape.trans h.tape, k.output.trans h.output, Nat.le_trans h.size k.size, fun q hq hn => (k.block q (Nat.lt_of_lt_of_le hq h.size) (fun e => by
    rcases hT q e with e | e
    · exact hn e
    · omega)).trans (h.block q hq hn)⟩
theorem Only.wide {T T' : Nat → Prop} {w w' : World} (h : Only T w w') (hT : ∀ q, T q → T' q) : Only T' w w' := ⟨h.os, h.tape, h.output, h.size, fun q hq hn => h.block q hq (fun e => hn (hT q e))⟩
theorem Only.below {T : Nat → Prop} {B : Nat} {w w' : World} (h : Only T w w') (hT : ∀ b, T b → B ≤ b) (hB : B ≤ w.heap.size) : Below B w w' :=
  ⟨h.os, h.tape, h.output, h.size, fun k hk => h.block k (by omega) (fun e => by have := hT k e; omega)⟩
theorem Only.drew {T : Nat → Prop} {w w' : World} (h : Only T w w') : Only T w w'.drew := ⟨h.os, h.tape, h.output, h.size, h.block⟩
theorem Only.cell {T : Nat → Prop} {w w' : World} (h : Only T w w') {p : Addr} {v : Value} (hp : w.cell? p = some v) (hn : ¬ T p.block) : w'.cell? p = some v :=
  (World.cell?_of_block (h.block p.block (World.block_lt_of_cell? w p hp) hn)).trans hp

/-- Bytes in a block of bytes. -/
structure BytG (w : World) (a : Option Addr) (l c : Nat) (bs : List Int) : Prop where
  byts : Byts w a l c bs
  nil : a = none → c = 0
  isb : IsBs w a l
theorem BytG.only {C : Nat → Prop} {w w' : World} {a : Option Addr} {l c : Nat} {bs : List Int} (h : BytG w a l c bs) (k : Only C w w') (hC : ∀ b, C b → ¬ IsB w b) : BytG w' a l c bs := by
  refine ⟨⟨h.byts.hlen, h.byts.hcap, h.byts.hmax, fun h0 => ?_, h.byts.word⟩, h.nil, fun ad e h0 => ?_⟩
  · obtain ⟨b, off, e, hc⟩ := h.byts.cells h0
    exact ⟨b, off, e, fun i hi => k.cell (hc i hi) (fun q => hC b q (h.isb _ e h0))⟩
  · have := h.isb ad e h0
    exact this.kept (k.block _ this.lt (fun q => hC _ q this))
theorem BytG.below {w w' : World} {a : Option Addr} {l c : Nat} {bs : List Int} (h : BytG w a l c bs) (hb : Below w.heap.size w w') : BytG w' a l c bs := h.only (Only.of_below (T := fun _ => False) hb) (fun _ e => e.elim)
/-- What is no block of bytes stays so. -/
theorem IsB.back {C : Nat → Prop} {w w' : World} {b : Nat} (k : Only C w w') (hb : b < w.heap.size) (hn : ¬ C b) (h : ¬ IsB w b) : ¬ IsB w' b := fun ⟨cur, e⟩ => h ⟨cur, (k.block b hb hn).symm.trans e⟩
theorem row_notB {w : World} {base : Nat} {t : TypeId} {size : Nat} {v : Value} {n : Nat} {xs : List Value} (h : w.ownsRow base t size v n xs) (ht : t ≠ 5) : ∀ b, v.ownBlock = some b → ¬ IsB w b := fun b e => by
  rcases h.2 with ⟨rfl, _⟩ | ⟨g, cap, cur, rfl, _, hg, _⟩
  · simp [Value.ownBlock] at e
  · simp [Value.ownBlock] at e
    subst e
    exact IsB.not hg ht
/-- A row whose block is its own stays, as long as that is not turned. -/
theorem row_only {C : Nat → Prop} {w w' : World} {base : Nat} {t : TypeId} {size : Nat} {v : Value} {n : Nat} {xs : List Value} (h : w.ownsRow base t size v n xs) (k : Only C w w') (hv : ∀ b, v.ownBlock = some b → ¬ C b) : w'.ownsRow base t size v n xs := by
  refine ⟨h.1, ?_⟩
  rcases h.2 with hn | ⟨g, cap, cur, rfl, hb, hg, rest⟩
  · exact .inl hn
  · refine .inr ⟨g, cap, cur, rfl, hb, ?_, rest⟩
    rw [k.block g (Array.getElem?_eq_some_iff.1 hg).1 (hv g rfl)]
    exact hg
end Go.Proofs.Ytchmlfjjgehbkaa

namespace Go.Proofs.Ytchmlfjjgehbkaa
open Go.RowKit

/-- Rows of bytes that lie in a row, and what they are put together. -/
def Parts10 (w : World) (g : Nat) (ps : List (Option Addr × Nat × Nat × List Int)) : Prop := ∀ i p, ps[i]? = some p → w.cell? ⟨g, i, none⟩ = some (.slice p.1 p.2.1 p.2.2.1) ∧ Byts w p.1 p.2.1 p.2.2.1 p.2.2.2 ∧ (p.1 = none → p.2.2.1 = 0)
def catL (ps : List (Option Addr × Nat × Nat × List Int)) : List Int := (ps.map (·.2.2.2)).flatten
theorem Parts10.below {w w' : World} {g : Nat} {ps : List (Option Addr × Nat × Nat × List Int)} (h : Parts10 w g ps) (hb : Below w.heap.size w w') : Parts10 w' g ps := fun i p hp => ⟨bkeep hb (h i p hp).1 rfl, (h i p hp).2.1.below hb, (h i p hp).2.2⟩
theorem catL_snoc {ps : List (Option Addr × Nat × Nat × List Int)} {i : Nat} {p : Option Addr × Nat × Nat × List Int} (h : ps[i]? = some p) : catL (ps.take (i + 1)) = catL (ps.take i) ++ p.2.2.2 := by
  unfold catL
  rw [List.take_add_one, h]
  simp
theorem catL_le (ps : List (Option Addr × Nat × Nat × List Int)) (i : Nat) : (catL (ps.take i)).length ≤ (catL ps).length := by
  have e : catL ps = catL (ps.take i) ++ catL (ps.drop i) := by
    unfold catL
    rw [← List.flatten_append, ← List.map_append, List.take_append_drop]
  rw [e, List.length_append]
  omega

/-- A row of bytes that may be handed on. -/
def PB (w : World) (a : Option Addr) (l c : Nat) (zs : List Int) : Prop := Byts w a l c zs ∧ (a = none → c = 0)
theorem PB.below {w w' : World} {a : Option Addr} {l c : Nat} {zs : List Int} (h : PB w a l c zs) (hb : Below w.heap.size w w') : PB w' a l c zs := ⟨h.1.below hb, h.2⟩
theorem bdrX (w : World) : Below w.heap.size w w.drew := ⟨rfl, rfl, rfl, Nat.le_refl _, fun _ _ => rfl⟩
theorem PB.drew {w : World} {a : Option Addr} {l c : Nat} {zs : List Int} (h : PB w a l c zs) : PB w.drew a l c zs := h.below (bdrX w)
theorem PB.grow {w : World} {a : Option Addr} {l c : Nat} {zs : List Int} (h : PB w a l c zs) (o : Obj) : PB (w.alloc o) a l c zs := h.below (balloc w o)
theorem PB.lit1 (w : World) (x : Int) (hx : 0 ≤ x ∧ x < 256) : PB (w.alloc (.cells #[.int .u8 x] 5)) (some ⟨w.heap.size, 0, none⟩) 1 1 [x] := by
  refine ⟨⟨rfl, Nat.le_refl _, by unfold maxLen; omega, fun _ => ⟨w.heap.size, 0, rfl, fun i hi => ?_⟩, fun v hv => ?_⟩, fun e => by cases e⟩
  · obtain rfl : i = 0 := by omega
    simp
  · simp at hv
    rw [hv]; exact hx
theorem bdrX' {V w : World} (h : Below V.heap.size V w) : Below V.heap.size V w.drew := ⟨h.os, h.tape, h.output, h.size, h.block⟩
theorem bgrX {V w : World} (h : Below V.heap.size V w) (o : Obj) : Below V.heap.size V (w.alloc o) := h.alloc h.size o
theorem BOwn.base {w : World} {b b' : Nat} {v : Value} {zs : List Int} (h : BOwn w b v zs) (hb : b' ≤ b) : BOwn w b' v zs := by
  obtain ⟨h1, h2 | ⟨g, cap, cur, h2, h3, h4⟩⟩ := h
  · exact ⟨h1, .inl h2⟩
  · exact ⟨h1, .inr ⟨g, cap, cur, h2, Nat.le_trans hb h3, h4⟩⟩
theorem PB.own {w : World} {base : Nat} {v : Value} {zs : List Int} (h : BOwn w base v zs) (hd : Digs 256 zs) : ∃ a l c, v = .slice a l c ∧ PB w a l c zs := by
  obtain ⟨a, n, cp, rfl, hB, -, nn⟩ := h.fresh hd
  exact ⟨a, n, cp, rfl, hB, nil9 nn⟩
theorem cell4_0 (w : World) (x y z u : Value) (t : TypeId) : (w.alloc (.cells #[x, y, z, u] t)).cell? ⟨w.heap.size, 0, none⟩ = some x := by simp
theorem cell4_1 (w : World) (x y z u : Value) (t : TypeId) : (w.alloc (.cells #[x, y, z, u] t)).cell? ⟨w.heap.size, 1, none⟩ = some y := by simp
theorem cell4_2 (w : World) (x y z u : Value) (t : TypeId) : (w.alloc (.cells #[x, y, z, u] t)).cell? ⟨w.heap.size, 2, none⟩ = some z := by simp
theorem cell4_3 (w : World) (x y z u : Value) (t : TypeId) : (w.alloc (.cells #[x, y, z, u] t)).cell? ⟨w.heap.size, 3, none⟩ = some u := by simp

theorem cell4s_0 (w : World) (o : Obj) (x y z u : Value) (t : TypeId) : ((w.alloc o).alloc (.cells #[x, y, z, u] t)).cell? ⟨w.heap.size + 1, 0, none⟩ = some x := by have := cell4_0 (w.alloc o) x y z u t; rwa [World.size_alloc] at this
theorem cell4s_1 (w : World) (o : Obj) (x y z u : Value) (t : TypeId) : ((w.alloc o).alloc (.cells #[x, y, z, u] t)).cell? ⟨w.heap.size + 1, 1, none⟩ = some y := by have := cell4_1 (w.alloc o) x y z u t; rwa [World.size_alloc] at this
theorem cell4s_2 (w : World) (o : Obj) (x y z u : Value) (t : TypeId) : ((w.alloc o).alloc (.cells #[x, y, z, u] t)).cell? ⟨w.heap.size + 1, 2, none⟩ = some z := by have := cell4_2 (w.alloc o) x y z u t; rwa [World.size_alloc] at this
theorem cell4s_3 (w : World) (o : Obj) (x y z u : Value) (t : TypeId) : ((w.alloc o).alloc (.cells #[x, y, z, u] t)).cell? ⟨w.heap.size + 1, 3, none⟩ = some u := by have := cell4_3 (w.alloc o) x y z u t; rwa [World.size_alloc] at this
end Go.Proofs.Ytchmlfjjgehbkaa

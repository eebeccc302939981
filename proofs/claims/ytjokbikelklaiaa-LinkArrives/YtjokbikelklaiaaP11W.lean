/-
  Stage 11's laws: two ends and what a law keeps of them, side by side in memory.
  Stage 11's laws: what a law keeps of two ends; its tell.
  Stage 11's laws: what a law sends and lets out.
  Stage 11's laws: what a law lets out.
-/
import Derived.Test.YtjokbikelklaiaaP11LawsS
namespace Go.Proofs.Ytjokbikelklaiaa
open Go.RowKit

/-- One place of a list of places is another one. -/
def put {α : Type} (f : Nat → α) (k : Nat) (x : α) : Nat → α := fun i => if i = k then x else f i
theorem put_same {α : Type} (f : Nat → α) (k : Nat) (x : α) : put f k x k = x := if_pos rfl
theorem put_other {α : Type} (f : Nat → α) {k i : Nat} (x : α) (h : i ≠ k) : put f k x i = f i := if_neg h
/-- The cells of a law's world: two ends, and six rows of bytes: what each took, was told, let out. -/
def cells11 (g : Nat → Nat) (u : Nat → Value) : Array Value := #[.pointer (some ⟨g 0, 0, none⟩), .pointer (some ⟨g 1, 0, none⟩), u 0, u 1, u 2, u 3, u 4, u 5]
theorem cells11_end (g : Nat → Nat) (u : Nat → Value) {k : Nat} (hk : k < 2) : (cells11 g u)[k]? = some (.pointer (some ⟨g k, 0, none⟩)) := by
  match k, hk with
  | 0, _ => rfl
  | 1, _ => rfl
theorem cells11_row (g : Nat → Nat) (u : Nat → Value) {j : Nat} (hj : j < 6) : (cells11 g u)[2 + j]? = some (u j) := by
  match j, hj with
  | 0, _ => rfl
  | 1, _ => rfl
  | 2, _ => rfl
  | 3, _ => rfl
  | 4, _ => rfl
  | 5, _ => rfl
theorem cells11_put (g : Nat → Nat) (u : Nat → Value) {j : Nat} (hj : j < 6) (x : Value) : (cells11 g u).setIfInBounds (2 + j) x = cells11 g (put u j x) := by
  match j, hj with
  | 0, _ => rfl
  | 1, _ => rfl
  | 2, _ => rfl
  | 3, _ => rfl
  | 4, _ => rfl
  | 5, _ => rfl
/-- The parts of it, by number: the ends are 0 and 1, the rows 2 to 7, its own block 8. -/
def part11 (v : Nat) (T : Nat → Nat → Prop) (u : Nat → Value) (p b : Nat) : Prop := (p < 2 ∧ T p b) ∨ (2 ≤ p ∧ p < 8 ∧ (u (p - 2)).ownBlock = some b) ∨ (p = 8 ∧ b = v)
structure W11 (At : World → Nat → LS → (Nat → Prop) → Prop) (w : World) (v : Nat) (g : Nat → Nat) (s : Nat → LS) (T : Nat → Nat → Prop) (u : Nat → Value) (rows : Nat → List (List Int)) (wx : World) : Prop where
  heap : wx.heap[v]? = some (.cells (cells11 g u) 54 (0, 0))
  ends : ∀ k, k < 2 → At wx (g k) (s k) (T k)
  row : ∀ j, j < 6 → RowB wx (u j) (rows j)
  apart : ∀ p q b, p ≠ q → part11 v T u p b → ¬ part11 v T u q b
  new : ∀ p b, part11 v T u p b → w.heap.size ≤ b
  below : Below w.heap.size w wx
theorem W11.old {At : World → Nat → LS → (Nat → Prop) → Prop} (A : EndKept11 At) {w wx : World} {v : Nat} {g : Nat → Nat} {s : Nat → LS} {T : Nat → Nat → Prop} {u : Nat → Value} {rows : Nat → List (List Int)} (h : W11 At w v g s T u rows wx) : ∀ p b, part11 v T u p b → b < wx.heap.size ∧ ¬ IsB wx b := fun p b e => by
  rcases e with ⟨hp, e⟩ | ⟨h1, h2, e⟩ | ⟨_, rfl⟩
  · have := A.foot (h.ends p hp)
    exact ⟨this.2.1 b e, this.2.2 b e⟩
  · have := h.row (p - 2) (by omega)
    exact ⟨this.lt b e, this.notB b e⟩
  · exact ⟨(Array.getElem?_eq_some_iff.1 h.heap).1, IsB.not h.heap (by decide)⟩
theorem W11.grow {At : World → Nat → LS → (Nat → Prop) → Prop} (A : EndKept11 At) {w wx wy : World} {v : Nat} {g : Nat → Nat} {s : Nat → LS} {T : Nat → Nat → Prop} {u : Nat → Value} {rows : Nat → List (List Int)} (h : W11 At w v g s T u rows wx) (hb : Below wx.heap.size wx wy) : W11 At w v g s T u rows wy :=
  ⟨(hb.block v (Array.getElem?_eq_some_iff.1 h.heap).1).trans h.heap, fun k hk => A.below (h.ends k hk) hb, fun j hj => (h.row j hj).only (Only.of_below (T := fun _ => False) hb) (fun _ _ e => e) (fun _ e => e.elim), h.apart, h.new, h.below.trans (hb.mono h.below.size)⟩
/-- A call on one end. -/
theorem W11.onEnd {At : World → Nat → LS → (Nat → Prop) → Prop} (A : EndKept11 At) {w wx wy : World} {v k : Nat} {g : Nat → Nat} {s : Nat → LS} {T : Nat → Nat → Prop} {u : Nat → Value} {rows : Nat → List (List Int)} {s' : LS} {T' : Nat → Prop} (h : W11 At w v g s T u rows wx) (hk : k < 2) (hE : At wy (g k) s' T' ∧ Only (T k) wx wy ∧ ∀ b, T' b → T k b ∨ wx.heap.size ≤ b) : W11 At w v g (put s k s') (put T k T') u rows wy := by
  have hpk : ∀ b, T k b → part11 v T u k b := fun b e => .inl ⟨hk, e⟩
  have hnb : ∀ b, T k b → ¬ IsB wx b := fun b e => (h.old A k b (hpk b e)).2
  have hp : ∀ p b, part11 v (put T k T') u p b → part11 v T u p b ∨ (p = k ∧ wx.heap.size ≤ b) := fun p b e => by
    rcases e with ⟨hp, e⟩ | e | e
    · by_cases c : p = k
      · subst c
        rw [put_same] at e
        rcases hE.2.2 b e with q | q
        · exact .inl (.inl ⟨hp, q⟩)
        · exact .inr ⟨rfl, q⟩
      · rw [put_other _ _ c] at e
        exact .inl (.inl ⟨hp, e⟩)
    · exact .inl (.inr (.inl e))
    · exact .inl (.inr (.inr e))
  refine ⟨?_, fun i hi => ?_, fun j hj => ?_, fun p q b hne e1 e2 => ?_, fun p b e => ?_, h.below.trans (hE.2.1.below (fun b e => h.new k b (hpk b e)) h.below.size)⟩
  · rw [hE.2.1.block v (Array.getElem?_eq_some_iff.1 h.heap).1 (fun e => h.apart k 8 v (by omega) (hpk v e) (.inr (.inr ⟨rfl, rfl⟩)))]
    exact h.heap
  · by_cases c : i = k
    · subst c
      rw [put_same, put_same]
      exact hE.1
    · rw [put_other _ _ c, put_other _ _ c]
      exact A.other (h.ends i hi) hE.2.1 (fun b e q => h.apart k i b (Ne.symm c) (hpk b e) (.inl ⟨hi, q⟩)) hnb
  · exact (h.row j hj).only hE.2.1 (fun b e q => h.apart k (2 + j) b (by omega) (hpk b q) (.inr (.inl ⟨by omega, by omega, by rw [show 2 + j - 2 = j by omega]; exact e⟩))) hnb
  · rcases hp p b e1 with c1 | ⟨rfl, c1⟩ <;> rcases hp q b e2 with c2 | ⟨rfl, c2⟩
    · exact h.apart p q b hne c1 c2
    · have := (h.old A p b c1).1; omega
    · have := (h.old A q b c2).1; omega
    · exact hne rfl
  · rcases hp p b e with c | ⟨_, c⟩
    · exact h.new p b c
    · exact Nat.le_trans h.below.size c
/-- One row is another one. -/
theorem W11.onRow {At : World → Nat → LS → (Nat → Prop) → Prop} (A : EndKept11 At) {w wx wa w3 : World} {v j : Nat} {g : Nat → Nat} {s : Nat → LS} {T : Nat → Nat → Prop} {u : Nat → Value} {rows : Nat → List (List Int)} {x : Value} {L : List (List Int)} (h : W11 At w v g s T u rows wx) (hj : j < 6) (hwa : Below wx.heap.size wx wa) (hg : wa.grownBy w3 (u j).ownBlock) (hv : x.ownBlock = (u j).ownBlock ∨ x.ownBlock = some wa.heap.size) (hrow : RowB w3 x L) :
    w3.cell? ⟨v, 2 + j, none⟩ = some (u j) ∧ w3.frozen? ⟨v, 2 + j, none⟩ = false ∧ W11 At w v g s T (put u j x) (put rows j L) (w3.setCell ⟨v, 2 + j, none⟩ x) := by
  have hpj : ∀ b, (u j).ownBlock = some b → part11 v T u (2 + j) b := fun b e => .inr (.inl ⟨by omega, by omega, by rw [show 2 + j - 2 = j by omega]; exact e⟩)
  have hpv : part11 v T u 8 v := .inr (.inr ⟨rfl, rfl⟩)
  have hvl := (h.old A 8 v hpv).1
  have hsz := hwa.size
  have hpx : ∀ p b, part11 v T (put u j x) p b → part11 v T u p b ∨ (p = 2 + j ∧ wx.heap.size ≤ b) := fun p b e => by
    rcases e with e | ⟨h1, h2, e⟩ | e
    · exact .inl (.inl e)
    · by_cases c : p - 2 = j
      · rw [c, put_same] at e
        rcases hv with q | q
        · exact .inl (.inr (.inl ⟨h1, h2, by rw [c]; exact q.symm.trans e⟩))
        · have := Option.some.inj (q.symm.trans e)
          exact .inr ⟨by omega, by omega⟩
      · rw [put_other _ _ c] at e
        exact .inl (.inr (.inl ⟨h1, h2, e⟩))
    · exact .inl (.inr (.inr e))
  have o1 : Only (fun b => (u j).ownBlock = some b) wx w3 := (Only.of_below (T := fun b => (u j).ownBlock = some b) hwa).trans (Only.of_grown hg (fun b e => e)) (fun q e => .inl e)
  have hv3 : w3.heap[v]? = some (.cells (cells11 g u) 54 (0, 0)) := (o1.block v hvl (fun e => h.apart (2 + j) 8 v (by omega) (hpj v e) hpv)).trans h.heap
  have o2 : Only (fun b => b = v) w3 (w3.setCell ⟨v, 2 + j, none⟩ x) := Only.of_grown (grown_set w3 v (2 + j) x) (fun b e => by cases e; rfl)
  have o12 : Only (fun b => (u j).ownBlock = some b ∨ b = v) wx (w3.setCell ⟨v, 2 + j, none⟩ x) := (o1.wide (fun b e => .inl e)).trans o2 (fun q e => .inl (.inr e))
  have hnb : ∀ b, ((u j).ownBlock = some b ∨ b = v) → ¬ IsB wx b := fun b e => by
    rcases e with e | rfl
    · exact (h.old A _ b (hpj b e)).2
    · exact (h.old A 8 b hpv).2
  refine ⟨by rw [cell_of_row w3 v (2 + j) _ _ _ hv3]; exact cells11_row g u hj, frozen_of_row w3 v (2 + j) _ _ hv3, ?_, fun k hk => ?_, fun i hi => ?_, fun p q b hne e1 e2 => ?_, fun p b e => ?_, ?_⟩
  · rw [heap_setCell_same w3 v (2 + j) _ _ x hv3, cells11_put g u hj]
  · refine A.other (h.ends k hk) o12 (fun b e q => ?_) hnb
    rcases e with e | rfl
    · exact h.apart (2 + j) k b (by omega) (hpj b e) (.inl ⟨hk, q⟩)
    · exact h.apart 8 k b (by omega) hpv (.inl ⟨hk, q⟩)
  · by_cases c : i = j
    · subst c
      rw [put_same, put_same]
      refine hrow.only o2 (fun b e q => ?_) (fun b e => by rw [e]; exact IsB.not hv3 (by decide))
      subst q
      rcases hv with k | k
      · exact h.apart (2 + i) 8 b (by omega) (hpj b (k.symm.trans e)) hpv
      · have := Option.some.inj (k.symm.trans e); omega
    · rw [put_other _ _ c, put_other _ _ c]
      refine (h.row i hi).only o12 (fun b e q => ?_) hnb
      have hpi : part11 v T u (2 + i) b := .inr (.inl ⟨by omega, by omega, by rw [show 2 + i - 2 = i by omega]; exact e⟩)
      rcases q with q | rfl
      · exact h.apart (2 + i) (2 + j) b (by omega) hpi (hpj b q)
      · exact h.apart (2 + i) 8 b (by omega) hpi hpv
  · rcases hpx p b e1 with c1 | ⟨rfl, c1⟩ <;> rcases hpx q b e2 with c2 | ⟨rfl, c2⟩
    · exact h.apart p q b hne c1 c2
    · have := (h.old A p b c1).1; omega
    · have := (h.old A q b c2).1; omega
    · exact hne rfl
  · rcases hpx p b e with c | ⟨_, c⟩
    · exact h.new p b c
    · exact Nat.le_trans h.below.size c
  · refine h.below.trans (o12.below (fun b e => ?_) h.below.size)
    rcases e with e | rfl
    · exact h.new _ b (hpj b e)
    · exact h.new 8 b hpv
end Go.Proofs.Ytjokbikelklaiaa

namespace Go.Proofs.Ytjokbikelklaiaa
open Go.RowKit

/-- The rows are these frames' bytes. -/
def IsFrs (fs : List Fr11) (xs : List (List Int)) : Prop := xs.length = fs.length ∧ ∀ i, i < fs.length → IsFr (fs.getD i ⟨false, 0, 0, []⟩) (xs.getD i [])
theorem IsFrs.append {fs gs : List Fr11} {xs ys : List (List Int)} (h : IsFrs fs xs) (k : IsFrs gs ys) : IsFrs (fs ++ gs) (xs ++ ys) := by
  refine ⟨by simp [h.1, k.1], fun i hi => ?_⟩
  by_cases c : i < fs.length
  · rw [show (fs ++ gs).getD i ⟨false, 0, 0, []⟩ = fs.getD i ⟨false, 0, 0, []⟩ by unfold List.getD; rw [List.getElem?_append_left c], show (xs ++ ys).getD i [] = xs.getD i [] by unfold List.getD; rw [List.getElem?_append_left (by rw [h.1]; exact c)]]
    exact h.2 i c
  · rw [show (fs ++ gs).getD i ⟨false, 0, 0, []⟩ = gs.getD (i - fs.length) ⟨false, 0, 0, []⟩ by unfold List.getD; rw [List.getElem?_append_right (by omega)], show (xs ++ ys).getD i [] = ys.getD (i - fs.length) [] by unfold List.getD; rw [List.getElem?_append_right (by rw [h.1]; omega), h.1]]
    exact k.2 _ (by simp at hi; omega)
/-- What the rows say of the ends. -/
def Links11 (s : Nat → LS) (ou : Nat → List Fr11) (rows : Nat → List (List Int)) : Prop := ∀ k, k < 2 → rows k = (s k).took ∧ rows (2 + k) = (s k).all.take (s k).told ∧ IsFrs (ou k) (rows (4 + k))
/-- A law's world: two ends that know s, whose frames that came out are ou; beside it a row of the bytes ys. -/
structure J11 (At : World → Nat → LS → (Nat → Prop) → Prop) (w : World) (v : Nat) (s : Nat → LS) (ou : Nat → List Fr11) (x : Value) (ys : List (List Int)) (g : Nat → Nat) (T : Nat → Nat → Prop) (u : Nat → Value) (rows : Nat → List (List Int)) (wx : World) : Prop where
  mem : W11 At w v g s T u rows wx
  links : Links11 s ou rows
  beside : RowB wx x ys
  far : ∀ b, x.ownBlock = some b → w.heap.size ≤ b ∧ ∀ p, ¬ part11 v T u p b
theorem part_end {v k b : Nat} {T : Nat → Nat → Prop} {u : Nat → Value} (hk : k < 2) (e : T k b) : part11 v T u k b := .inl ⟨hk, e⟩
theorem part_row {v j b : Nat} {T : Nat → Nat → Prop} {u : Nat → Value} (hj : j < 6) (e : (u j).ownBlock = some b) : part11 v T u (2 + j) b := .inr (.inl ⟨by omega, by omega, by rw [show 2 + j - 2 = j by omega]; exact e⟩)
theorem J11.grow {At : World → Nat → LS → (Nat → Prop) → Prop} (A : EndKept11 At) {w wx wy : World} {v : Nat} {s : Nat → LS} {ou : Nat → List Fr11} {x : Value} {ys : List (List Int)} {g : Nat → Nat} {T : Nat → Nat → Prop} {u : Nat → Value} {rows : Nat → List (List Int)} (h : J11 At w v s ou x ys g T u rows wx) (hb : Below wx.heap.size wx wy) : J11 At w v s ou x ys g T u rows wy :=
  ⟨h.mem.grow A hb, h.links, h.beside.only (Only.of_below (T := fun _ => False) hb) (fun _ _ e => e) (fun _ e => e.elim), h.far⟩
theorem J11.onEnd {At : World → Nat → LS → (Nat → Prop) → Prop} (A : EndKept11 At) {w wx wy : World} {v k : Nat} {s : Nat → LS} {ou : Nat → List Fr11} {x : Value} {ys : List (List Int)} {g : Nat → Nat} {T : Nat → Nat → Prop} {u : Nat → Value} {rows : Nat → List (List Int)} {s' : LS} {T' : Nat → Prop} (h : J11 At w v s ou x ys g T u rows wx) (hk : k < 2) (hE : At wy (g k) s' T' ∧ Only (T k) wx wy ∧ ∀ b, T' b → T k b ∨ wx.heap.size ≤ b) :
    W11 At w v g (put s k s') (put T k T') u rows wy ∧ RowB wy x ys ∧ ∀ b, x.ownBlock = some b → w.heap.size ≤ b ∧ ∀ p, ¬ part11 v (put T k T') u p b := by
  refine ⟨h.mem.onEnd A hk hE, h.beside.only hE.2.1 (fun b e q => (h.far b e).2 k (part_end hk q)) (fun b e => (h.mem.old A k b (part_end hk e)).2), fun b e => ⟨(h.far b e).1, fun p q => ?_⟩⟩
  have hlt := h.beside.lt b e
  rcases q with ⟨hp, q⟩ | q | q
  · by_cases c : p = k
    · subst c
      rw [put_same] at q
      rcases hE.2.2 b q with r | r
      · exact (h.far b e).2 p (part_end hp r)
      · omega
    · rw [put_other _ _ c] at q
      exact (h.far b e).2 p (part_end hp q)
  · exact (h.far b e).2 p (.inr (.inl q))
  · exact (h.far b e).2 p (.inr (.inr q))
theorem J11.onRow {At : World → Nat → LS → (Nat → Prop) → Prop} (A : EndKept11 At) {w wx wa w3 : World} {v j : Nat} {s : Nat → LS} {g : Nat → Nat} {T : Nat → Nat → Prop} {u : Nat → Value} {rows : Nat → List (List Int)} {x y : Value} {ys : List (List Int)} (h : W11 At w v g s T u rows wx) (hx : RowB wx x ys) (hf : ∀ b, x.ownBlock = some b → w.heap.size ≤ b ∧ ∀ p, ¬ part11 v T u p b) (hj : j < 6) (hwa : Below wx.heap.size wx wa) (hg : wa.grownBy w3 (u j).ownBlock) (hv : y.ownBlock = (u j).ownBlock ∨ y.ownBlock = some wa.heap.size) :
    RowB (w3.setCell ⟨v, 2 + j, none⟩ y) x ys ∧ ∀ b, x.ownBlock = some b → w.heap.size ≤ b ∧ ∀ p, ¬ part11 v T (put u j y) p b := by
  have o1 : Only (fun b => (u j).ownBlock = some b) wx w3 := (Only.of_below (T := fun b => (u j).ownBlock = some b) hwa).trans (Only.of_grown hg (fun b e => e)) (fun q e => .inl e)
  have o2 : Only (fun b => b = v) w3 (w3.setCell ⟨v, 2 + j, none⟩ y) := Only.of_grown (grown_set w3 v (2 + j) y) (fun b e => by cases e; rfl)
  have o12 : Only (fun b => (u j).ownBlock = some b ∨ b = v) wx (w3.setCell ⟨v, 2 + j, none⟩ y) := (o1.wide (fun b e => .inl e)).trans o2 (fun q e => .inl (.inr e))
  refine ⟨hx.only o12 (fun b e q => ?_) (fun b e => ?_), fun b e => ⟨(hf b e).1, fun p q => ?_⟩⟩
  · rcases q with q | rfl
    · exact (hf b e).2 _ (part_row hj q)
    · exact (hf b e).2 8 (.inr (.inr ⟨rfl, rfl⟩))
  · rcases e with e | rfl
    · exact (h.old A _ b (part_row hj e)).2
    · exact (h.old A 8 b (.inr (.inr ⟨rfl, rfl⟩))).2
  · have hlt := hx.lt b e
    have hsz := hwa.size
    rcases q with q | ⟨h1, h2, q⟩ | q
    · exact (hf b e).2 p (.inl q)
    · by_cases c : p - 2 = j
      · rw [c, put_same] at q
        rcases hv with r | r
        · exact (hf b e).2 _ (part_row hj (r.symm.trans q))
        · have := Option.some.inj (r.symm.trans q); omega
      · rw [put_other _ _ c] at q
        exact (hf b e).2 p (.inr (.inl ⟨h1, h2, q⟩))
    · exact (hf b e).2 p (.inr (.inr q))
/-- What a law's function on its world makes. -/
def T11 (At : World → Nat → LS → (Nat → Prop) → Prop) (w : World) (v : Nat) (s : Nat → LS) (ou : Nat → List Fr11) (x : Value) (ys : List (List Int)) (w' : World) : Prop := ∃ g T u rows, J11 At w v s ou x ys g T u rows w'

theorem take_next {L : List (List Int)} {t : Nat} (h : t < L.length) : L.take (t + 1) = L.take t ++ [L.getD t []] := by
  rw [List.take_add_one]
  simp [List.getD, h]
/-- One message more was told. -/
theorem J11.told {At : World → Nat → LS → (Nat → Prop) → Prop} (A : EndKept11 At) {w wx wa w3 : World} {v k : Nat} {s : Nat → LS} {ou : Nat → List Fr11} {x y : Value} {ys : List (List Int)} {g : Nat → Nat} {T : Nat → Nat → Prop} {u : Nat → Value} {rows : Nat → List (List Int)} {vs : List Value} {p : Option Addr} {n c : Nat} {sk : LS} (hk : k < 2) (hm : W11 At w v g (put s k { sk with told := sk.told + 1 }) T u rows wx) (hl : Links11 (put s k sk) ou rows) (hx : RowB wx x ys) (hf : ∀ b, x.ownBlock = some b → w.heap.size ≤ b ∧ ∀ p, ¬ part11 v T u p b) (hlt : sk.told < sk.all.length) (hvs : wx.ownsRow 0 31 1 (u (2 + k)) (rows (2 + k)).length vs)
    (hvb : ∀ i, i < (rows (2 + k)).length → ∃ p n c, vs[i]? = some (.slice p n c) ∧ BytG wx p n c ((rows (2 + k)).getD i [])) (hb : BytG wx p n c (sk.all.getD sk.told [])) (hwa : Below wx.heap.size wx wa) (hown : w3.ownsRow 0 31 1 y ((rows (2 + k)).length + 1) (vs ++ [.slice p n c])) (hg : wa.grownBy w3 (u (2 + k)).ownBlock) (hv : y.ownBlock = (u (2 + k)).ownBlock ∨ y.ownBlock = some wa.heap.size) :
    w3.cell? ⟨v, 4 + k, none⟩ = some (u (2 + k)) ∧ w3.frozen? ⟨v, 4 + k, none⟩ = false ∧ T11 At w v (put s k { sk with told := sk.told + 1 }) ou x ys (w3.setCell ⟨v, 4 + k, none⟩ y) := by
  have o1 : Only (fun b => (u (2 + k)).ownBlock = some b) wx w3 := (Only.of_below (T := fun b => (u (2 + k)).ownBlock = some b) hwa).trans (Only.of_grown hg (fun b e => e)) (fun q e => .inl e)
  have hnb : ∀ b, (u (2 + k)).ownBlock = some b → ¬ IsB wx b := (hm.row (2 + k) (by omega)).notB
  have hrow : RowB w3 y (rows (2 + k) ++ [sk.all.getD sk.told []]) := RowB.snoc hown (by have := hvs.1; omega) (fun i hi => by
    obtain ⟨p', n', c', e, hb'⟩ := hvb i hi
    exact ⟨p', n', c', e, hb'.only o1 hnb⟩) (hb.only o1 hnb)
  obtain ⟨k1, k2, k3⟩ := hm.onRow A (j := 2 + k) (by omega) hwa hg hv hrow
  obtain ⟨k4, k5⟩ := J11.onRow A hm hx hf (j := 2 + k) (by omega) hwa hg hv
  rw [show 2 + (2 + k) = 4 + k by omega] at k1 k2 k3 k4
  refine ⟨k1, k2, g, T, _, _, ⟨k3, fun i hi => ?_, k4, k5⟩⟩
  obtain ⟨r1, r2, r3⟩ := hl i hi
  by_cases c : i = k
  · subst c
    rw [put_same] at r1 r2 ⊢
    refine ⟨by rw [put_other _ _ (by omega)]; exact r1, ?_, by rw [put_other _ _ (by omega)]; exact r3⟩
    rw [put_same, r2]
    exact (take_next hlt).symm
  · rw [put_other _ _ c] at r1 r2 ⊢
    exact ⟨by rw [put_other _ _ (by omega)]; exact r1, by rw [put_other _ _ (by omega)]; exact r2, by rw [put_other _ _ (by omega)]; exact r3⟩

set_option maxRecDepth 20000 in
set_option maxHeartbeats 6400000 in
theorem tell11_any {At : World → Nat → LS → (Nat → Prop) → Prop} (A : EndOk11 At) (v k : Nat) (s : Nat → LS) (ou : Nat → List Fr11) (x : Value) (ys : List (List Int)) (w w0 : World) (hk : k < 2) (h : T11 At w v s ou x ys w0) (hall : (s k).all.length ≤ 1900) :
    Calls Try.prog 40 #[.pointer (some ⟨v, 0, none⟩), .int .i64 k] w0 fun e w' => e = .returned (.tuple #[]) ∧ T11 At w v (put s k { s k with told := (s k).all.length }) ou x ys w' := by
  have hki : (k : Int) < 2 := by omega
  have hk0 : (0 : Int) ≤ (k : Int) := by omega
  have HT : Hid (T11 At w v (put s k (s k)) ou x ys w0) := by
    have : put s k (s k) = s := by
      funext i
      by_cases c : i = k
      · rw [c, put_same]
      · rw [put_other _ _ c]
    show T11 _ _ _ _ _ _ _ _
    rw [this]
    exact h
  clear h
  go_enter Try.func40, Try.ntmps40
  go_wp2
  go_loopw [4] (fun v4 wr => ∃ i : Nat, v4 = .int .i64 i ∧ i ≤ 1900 ∧ Hid (∃ t, t = (s k).told + i ∧ t ≤ (s k).all.length ∧ T11 At w v (put s k { s k with told := t }) ou x ys wr)) (fun v4 _ => 2000 - (intOf v4).toNat)
  case atStart => 
    have hF : (s k).told ≤ (s k).all.length := by
      obtain ⟨g, T, u, rows, hJ⟩ := HT.out
      have := (A.foot (hJ.mem.ends k hk)).1.told
      rw [put_same] at this
      exact this
    exact ⟨0, rfl, by omega, ⟨(s k).told, rfl, hF, HT.out⟩⟩
  case round =>
    clear HT
    obtain ⟨i, rfl, hi, HR⟩ := hrel
    obtain ⟨t, ht, htl, g, T, u, rows, hJ⟩ := HR.out
    have hii : (i : Int) < 2000 := by omega
    have HJ : Hid (J11 At w v (put s k { s k with told := t }) ou x ys g T u rows wr ∧ t = (s k).told + i ∧ t ≤ (s k).all.length) := ⟨hJ, ht, htl⟩
    have ck : wr.cell? ⟨v, k, none⟩ = some (.pointer (some ⟨g k, 0, none⟩)) := by rw [cell_of_row wr v k _ _ _ hJ.mem.heap]; exact cells11_end g u hk
    have hend := hJ.mem.ends k hk
    rw [put_same] at hend
    have HN := (show Hid _ from A.next (g k) { s k with told := t } (T k) wr hend)
    obtain ⟨gk, hgk⟩ : ∃ gk, gk = g k := ⟨_, rfl⟩
    rw [← hgk] at ck HN
    have HG : Hid (gk = g k) := hgk
    clear hend hJ HR hgk ht htl
    go_wp2_with fail
    refine Calls.mono HN.out ?_
    rintro e w1 hI
    rcases hI with ⟨hle, rfl, T', hE⟩ | ⟨hlt, q, ql, qc, T', rfl, hE1, hE2, hE3, hB⟩
    · have hd : t = (s k).all.length := by have := HJ.out.2.2; have : (s k).all.length ≤ t := hle; omega
      rw [HG.out] at hE
      obtain ⟨m1, m2, m3⟩ := HJ.out.1.onEnd A.toEndKept11 hk hE
      have HF : Hid (T11 At w v (put s k { s k with told := (s k).all.length }) ou x ys w1) := by
        rw [← hd]
        have e1 : put (put s k { s k with told := t }) k { s k with told := t } = put s k { s k with told := t } := by
          funext i
          by_cases c : i = k
          · rw [c, put_same, put_same]
          · rw [put_other _ _ c]
        rw [e1] at m1
        exact ⟨g, _, u, rows, ⟨m1, HJ.out.1.links, m2, m3⟩⟩
      clear HJ HN hE m1 m2 m3 hle hd
      go_wp2
      refine bodyPost_ret (results_none rfl _ _ _) rfl ?_
      exact ⟨rfl, HF.out⟩
    · rw [HG.out] at hE1
      obtain ⟨m1, m2, m3⟩ := HJ.out.1.onEnd A.toEndKept11 hk ⟨hE1, hE2, hE3⟩
      have e1 : ∀ z, put (put s k { s k with told := t }) k z = put s k z := fun z => by
        funext i
        by_cases c : i = k
        · rw [c, put_same, put_same]
        · rw [put_other _ _ c, put_other _ _ c, put_other _ _ c]
      rw [e1] at m1
      obtain ⟨vs, hv1, hv2⟩ := m1.row (2 + k) (by omega)
      obtain ⟨a4, c4, e4⟩ := row_slice hv1
      have hlenr : (rows (2 + k)).length ≤ 2147483648 := by
        rw [(HJ.out.1.links k hk).2.1, put_same]
        simp
        omega
      have HM : Hid (W11 At w v g (put s k { s k with told := t + 1 }) (put T k T') u rows w1 ∧ RowB w1 x ys ∧ (∀ b, x.ownBlock = some b → w.heap.size ≤ b ∧ ∀ p, ¬ part11 v (put T k T') u p b) ∧ t < (s k).all.length ∧ BytG w1 q ql qc ((s k).all.getD t [])) := ⟨m1, m2, m3, hlt, hB⟩
      have HV0 : Hid (w1.ownsRow 0 31 1 (u (2 + k)) (rows (2 + k)).length vs) := hv1
      have HV : Hid (w1.ownsRow 0 31 1 (u (2 + k)) (rows (2 + k)).length vs ∧ ∀ i, i < (rows (2 + k)).length → ∃ p n c, vs[i]? = some (.slice p n c) ∧ BytG w1 p n c ((rows (2 + k)).getD i [])) := ⟨hv1, hv2⟩
      obtain ⟨nr, hnr⟩ : ∃ nr, nr = (rows (2 + k)).length := ⟨_, rfl⟩
      rw [← hnr] at e4 hlenr
      have HNR : Hid (nr = (rows (2 + k)).length ∧ u (2 + k) = .slice a4 nr c4) := ⟨hnr, e4⟩
      rw [e4, ← hnr] at HV0
      have d4 : w1.cell? ⟨v, 4 + k, none⟩ = some (.slice a4 nr c4) := by
        rw [cell_of_row w1 v (4 + k) _ _ _ m1.heap, ← e4, show 4 + k = 2 + (2 + k) by omega]
        exact cells11_row g u (by omega)
      have hvl : v < w1.heap.size := (Array.getElem?_eq_some_iff.1 m1.heap).1
      have hvne : w1.heap.size ≠ v := by omega
      have HC : Hid (∀ (w3 : World) (y : Value) (o : Obj), w3.ownsRow 0 31 1 y (nr + 1) (vs ++ [.slice q ql qc]) → (w1.alloc o).grownBy w3 (Value.slice a4 nr c4).ownBlock → (y.ownBlock = (Value.slice a4 nr c4).ownBlock ∨ y.ownBlock = some (w1.alloc o).heap.size) → w3.cell? ⟨v, 4 + k, none⟩ = some (.slice a4 nr c4) ∧ w3.frozen? ⟨v, 4 + k, none⟩ = false ∧ T11 At w v (put s k { s k with told := t + 1 }) ou x ys (w3.setCell ⟨v, 4 + k, none⟩ y)) := fun w3 y o h1 h2 h3 => by
        have e := HNR.out.2
        rw [← e] at h2 h3 ⊢
        exact J11.told A.toEndKept11 (sk := { s k with told := t }) hk HM.out.1 HJ.out.1.links HM.out.2.1 HM.out.2.2.1 HM.out.2.2.2.1 HV.out.1 HV.out.2 HM.out.2.2.2.2 (balloc w1 o) (by rw [← HNR.out.1]; exact h1) h2 h3
      clear m1 m2 m3 hv1 hv2 hE1 hE2 hE3 hB hlt hnr e4 HN e1 ck
      go_wp2_with fail
      go_region_law (first
        | (refine step_appRow _ (by rfl) _ _ 35 (by rfl) Try.underlying35 (.slice a4 nr c4) vs nr (by rfl) (by exact rowOwn_below HV0.out ⟨rfl, rfl, rfl, by simp, fun k hk => Below.heap_alloc _ _ _ hk⟩) w1.heap.size (.slice q ql qc) (by rfl) (by simp) (by rfl) (by omega) ?_; rintro v3 w3 hown3 hg3 hv3; obtain ⟨b3, k3, rfl⟩ := row_slice hown3; replace hg3 := grown_undraw hg3; have z3 := (HC.out w3 _ _ hown3 hg3 hv3).1; have f3 := (HC.out w3 _ _ hown3 hg3 hv3).2.1))
      all_goals
        have HF : Hid (∃ t', t' = (s k).told + (i + 1) ∧ t' ≤ (s k).all.length ∧ T11 At w v (put s k { s k with told := t' }) ou x ys (w3.setCell ⟨v, 4 + k, none⟩ (.slice b3 (nr + 1) k3))) := ⟨t + 1, by have := HJ.out.2.1; omega, HM.out.2.2.2.1, (HC.out w3 _ _ hown3 hg3 hv3).2.2⟩
        have hi9 : i + 1 ≤ 1900 := by
          obtain ⟨t', q1, q2, -⟩ := HF.out
          omega
        clear HJ HM HV HC hown3 hg3 hv3
        go_wp2
        go_roundw
        case rel => exact ⟨i + 1, by go_num, hi9, HF⟩
        case measure => simp [intOf]; omega
end Go.Proofs.Ytjokbikelklaiaa

namespace Go.Proofs.Ytjokbikelklaiaa
open Go.RowKit

theorem put_put {α : Type} (f : Nat → α) (k : Nat) (x y : α) : put (put f k x) k y = put f k y := by
  funext i
  by_cases c : i = k
  · rw [c, put_same, put_same]
  · rw [put_other _ _ c, put_other _ _ c, put_other _ _ c]
theorem put_self {α : Type} (f : Nat → α) (k : Nat) : put f k (f k) = f := by
  funext i
  by_cases c : i = k
  · rw [c, put_same]
  · rw [put_other _ _ c]
/-- Rows are appended to a row of them. -/
theorem RowB.join {w : World} {v : Value} {Ls Ms : List (List Int)} {vs us : List Value} (h1 : w.ownsRow 0 31 1 v (Ls.length + Ms.length) (vs ++ us)) (hl : vs.length = Ls.length) (h2 : ∀ i, i < Ls.length → ∃ p n c, vs[i]? = some (.slice p n c) ∧ BytG w p n c (Ls.getD i [])) (h3 : ∀ i, i < Ms.length → ∃ p n c, us[i]? = some (.slice p n c) ∧ BytG w p n c (Ms.getD i [])) : RowB w v (Ls ++ Ms) := by
  refine ⟨vs ++ us, by simpa using h1, fun i hi => ?_⟩
  by_cases q : i < Ls.length
  · obtain ⟨p', n', c', e, hb⟩ := h2 i q
    refine ⟨p', n', c', by rw [List.getElem?_append_left (by omega)]; exact e, ?_⟩
    rw [show (Ls ++ Ms).getD i [] = Ls.getD i [] by unfold List.getD; rw [List.getElem?_append_left q]]
    exact hb
  · obtain ⟨p', n', c', e, hb⟩ := h3 (i - Ls.length) (by simp at hi; omega)
    refine ⟨p', n', c', by rw [List.getElem?_append_right (by omega), hl]; exact e, ?_⟩
    rw [show (Ls ++ Ms).getD i [] = Ms.getD (i - Ls.length) [] by unfold List.getD; rw [List.getElem?_append_right (by omega)]]
    exact hb
/-- What a law took is one more. -/
theorem J11.took {At : World → Nat → LS → (Nat → Prop) → Prop} (A : EndKept11 At) {w wx wa w3 : World} {v k : Nat} {s : Nat → LS} {ou : Nat → List Fr11} {x y : Value} {ys : List (List Int)} {g : Nat → Nat} {T : Nat → Nat → Prop} {u : Nat → Value} {rows : Nat → List (List Int)} {vs : List Value} {p : Option Addr} {n c : Nat} {body : List Int} (hk : k < 2) (hm : W11 At w v g (put s k ((s k).send body)) T u rows wx) (hl : Links11 s ou rows) (hx : RowB wx x ys) (hf : ∀ b, x.ownBlock = some b → w.heap.size ≤ b ∧ ∀ p, ¬ part11 v T u p b) (hsE : (s k).sendE body = 0) (hvs : wx.ownsRow 0 31 1 (u k) (rows k).length vs)
    (hvb : ∀ i, i < (rows k).length → ∃ p n c, vs[i]? = some (.slice p n c) ∧ BytG wx p n c ((rows k).getD i [])) (hwa : Below wx.heap.size wx wa) (hb : BytG wa p n c body) (hown : w3.ownsRow 0 31 1 y ((rows k).length + 1) (vs ++ [.slice p n c])) (hg : wa.grownBy w3 (u k).ownBlock) (hv : y.ownBlock = (u k).ownBlock ∨ y.ownBlock = some wa.heap.size) :
    w3.cell? ⟨v, 2 + k, none⟩ = some (u k) ∧ w3.frozen? ⟨v, 2 + k, none⟩ = false ∧ T11 At w v (put s k ((s k).send body)) ou x ys (w3.setCell ⟨v, 2 + k, none⟩ y) := by
  have o1 : Only (fun b => (u k).ownBlock = some b) wa w3 := Only.of_grown hg (fun b e => e)
  have hrk := hm.row k (by omega)
  have hnb : ∀ b, (u k).ownBlock = some b → ¬ IsB wa b := fun b e => IsB.back (Only.of_below (T := fun _ => False) hwa) (hrk.lt b e) (fun q => q) (hrk.notB b e)
  have hrow : RowB w3 y (rows k ++ [body]) := RowB.snoc hown (by have := hvs.1; omega) (fun i hi => by
    obtain ⟨p', n', c', e, hb'⟩ := hvb i hi
    exact ⟨p', n', c', e, (hb'.below hwa).only o1 hnb⟩) (hb.only o1 hnb)
  obtain ⟨k1, k2, k3⟩ := hm.onRow A (j := k) (by omega) hwa hg hv hrow
  obtain ⟨k4, k5⟩ := J11.onRow A hm hx hf (j := k) (by omega) hwa hg hv
  refine ⟨k1, k2, g, T, _, _, ⟨k3, fun i hi => ?_, k4, k5⟩⟩
  obtain ⟨r1, r2, r3⟩ := hl i hi
  have hs : (s k).send body = { s k with took := (s k).took ++ [body] } := by unfold LS.send; rw [if_pos hsE]
  by_cases q : i = k
  · subst q
    have e1 : put s i ((s i).send body) i = { s i with took := (s i).took ++ [body] } := by rw [put_same, hs]
    rw [e1]
    exact ⟨by rw [put_same, r1], by rw [put_other _ _ (by omega)]; exact r2, by rw [put_other _ _ (by omega)]; exact r3⟩
  · rw [put_other s _ q]
    exact ⟨by rw [put_other _ _ q]; exact r1, by rw [put_other _ _ (by omega)]; exact r2, by rw [put_other _ _ (by omega)]; exact r3⟩

set_option maxRecDepth 20000 in
set_option maxHeartbeats 6400000 in
theorem send11_at {At : World → Nat → LS → (Nat → Prop) → Prop} (A : EndOk11 At) (v k : Nat) (s : Nat → LS) (ou : Nat → List Fr11) (x : Value) (ys : List (List Int)) (w w0 : World) (hk : k < 2) (g : Nat → Nat) (T : Nat → Nat → Prop) (u : Nat → Value) (rows : Nat → List (List Int)) (hJ : J11 At w v s ou x ys g T u rows w0) (p : Option Addr) (l c : Nat) (body : List Int) (hb : ∀ wx, Only (T k) w0 wx → Byts wx p l c body) (hnil : p = none → c = 0) (hlen : l ≤ 140737488355300) (hto : (s k).took.length ≤ 1000000) :
    Calls Try.prog 25 #[.pointer (some ⟨v, 0, none⟩), .int .i64 k, .slice p l c] w0 fun e w' => e = .returned (.tuple #[]) ∧ T11 At w v (put s k ((s k).send body)) ou x ys w' := by
  have hki : (k : Int) < 2 := by omega
  have hk0 : (0 : Int) ≤ (k : Int) := by omega
  have ck : w0.cell? ⟨v, k, none⟩ = some (.pointer (some ⟨g k, 0, none⟩)) := by rw [cell_of_row w0 v k _ _ _ hJ.mem.heap]; exact cells11_end g u hk
  obtain ⟨z, hz⟩ : ∃ z, z = (s k).sendE body := ⟨_, rfl⟩
  have HZ : Hid (z = (s k).sendE body) := hz
  have H1 := A.send (g k) (s k) (T k) p l c body w0 (hJ.mem.ends k hk) (hb w0 (Only.refl _ _)) hnil hlen
  rw [← hz] at H1
  have HN := (show Hid _ from H1)
  obtain ⟨gk, hgk⟩ : ∃ gk, gk = g k := ⟨_, rfl⟩
  rw [← hgk] at ck HN
  have HG : Hid (gk = g k) := hgk
  have HJ : Hid (J11 At w v s ou x ys g T u rows w0) := hJ
  have HB : Hid (∀ wx, Only (T k) w0 wx → Byts wx p l c body) := hb
  clear hJ H1 hz hgk hb
  go_enter Try.func25, Try.ntmps25
  go_wp2_with fail
  refine Calls.mono HN.out ?_
  rintro e w1 ⟨rfl, T', hE⟩
  rw [HG.out] at hE
  obtain ⟨m1, m2, m3⟩ := HJ.out.onEnd A.toEndKept11 hk hE
  by_cases hz0 : z = 0
  · subst hz0
    obtain ⟨vs, hv1, hv2⟩ := m1.row k (by omega)
    obtain ⟨a4, c4, e4⟩ := row_slice hv1
    have hlenr : (rows k).length ≤ 2147483648 := by
      rw [(HJ.out.links k hk).1]
      omega
    have HM : Hid (W11 At w v g (put s k ((s k).send body)) (put T k T') u rows w1 ∧ RowB w1 x ys ∧ (∀ b, x.ownBlock = some b → w.heap.size ≤ b ∧ ∀ p, ¬ part11 v (put T k T') u p b)) := ⟨m1, m2, m3⟩
    have HV0 : Hid (w1.ownsRow 0 31 1 (u k) (rows k).length vs) := hv1
    have HV : Hid (w1.ownsRow 0 31 1 (u k) (rows k).length vs ∧ ∀ i, i < (rows k).length → ∃ p n c, vs[i]? = some (.slice p n c) ∧ BytG w1 p n c ((rows k).getD i [])) := ⟨hv1, hv2⟩
    obtain ⟨nr, hnr⟩ : ∃ nr, nr = (rows k).length := ⟨_, rfl⟩
    rw [← hnr] at e4 hlenr
    have HNR : Hid (nr = (rows k).length ∧ u k = .slice a4 nr c4) := ⟨hnr, e4⟩
    rw [e4, ← hnr] at HV0
    have d4 : w1.cell? ⟨v, 2 + k, none⟩ = some (.slice a4 nr c4) := by
      rw [cell_of_row w1 v (2 + k) _ _ _ m1.heap, ← e4]
      exact cells11_row g u (by omega)
    have hvl : v < w1.heap.size := (Array.getElem?_eq_some_iff.1 m1.heap).1
    have hvne : w1.heap.size ≠ v := by omega
    have hBw := HB.out w1 hE.2.1
    have HB1 : Hid (Byts w1 p l c body ∧ Digs 256 body) := ⟨hBw, hBw.digs⟩
    have HC : Hid (∀ (w2 w3 : World) (y : Value) (o : Obj) (pa : Option Addr) (pn pc : Nat), Below w1.heap.size w1 w2 → BytG w2 pa pn pc body → w3.ownsRow 0 31 1 y (nr + 1) (vs ++ [.slice pa pn pc]) → (w2.alloc o).grownBy w3 (Value.slice a4 nr c4).ownBlock → (y.ownBlock = (Value.slice a4 nr c4).ownBlock ∨ y.ownBlock = some (w2.alloc o).heap.size) → w3.cell? ⟨v, 2 + k, none⟩ = some (.slice a4 nr c4) ∧ w3.frozen? ⟨v, 2 + k, none⟩ = false ∧ T11 At w v (put s k ((s k).send body)) ou x ys (w3.setCell ⟨v, 2 + k, none⟩ y)) := fun w2 w3 y o pa pn pc hb2 hby h1 h2 h3 => by
      have e := HNR.out.2
      rw [← e] at h2 h3 ⊢
      exact J11.took A.toEndKept11 hk HM.out.1 HJ.out.links HM.out.2.1 HM.out.2.2 HZ.out.symm HV.out.1 HV.out.2 (bthen hb2 (balloc w2 o)) (hby.below (balloc w2 o)) (by rw [← HNR.out.1]; exact h1) h2 h3
    clear m1 m2 m3 hv1 hv2 hE hnr e4 HN ck hBw HJ HM
    go_wp2_with fail
    go_region_law (first
      | (refine step_appBW _ (by rfl) _ _ 31 (by rfl) Try.underlying31 w1.heap.size _ [] (by rfl) (by first | exact BOwn.empty _ | exact BOwn.empty w1) p l c body (by rfl) (by exact HB1.out.1.below ⟨rfl, rfl, rfl, by simp, fun k hk => Below.heap_alloc _ _ _ hk⟩) hnil (by simp; omega) w1 (by simp) (by exact ⟨rfl, rfl, rfl, by simp, fun k hk => Below.heap_alloc _ _ _ hk⟩) ?_; rintro v' w2 hown hb2 -; rw [List.nil_append] at hown; obtain ⟨pa, pn, pc, rfl, hP⟩ := bown_new hown HB1.out.2; have z2 : w2.cell? ⟨v, 2 + k, none⟩ = some (.slice a4 nr c4) := (hb2.cell (p := ⟨v, 2 + k, none⟩) hvl).trans d4; have z2a : ∀ o : Obj, (w2.alloc o).cell? ⟨v, 2 + k, none⟩ = some (.slice a4 nr c4) := fun o => by rw [World.cell?_alloc_lt _ _ _ (World.block_lt_of_cell? _ _ z2)]; exact z2)
      | (refine step_appRow _ (by rfl) _ _ 35 (by rfl) Try.underlying35 (.slice a4 nr c4) vs nr (by rfl) (by exact World.ownsRow.alloc (rowOwn_below HV0.out hb2) _) w2.heap.size (.slice pa pn pc) (by rfl) (by simp) (by rfl) (by omega) ?_; rintro v3 w3 hown3 hg3 hv3; obtain ⟨b3, k3, rfl⟩ := row_slice hown3; have z3 : w3.cell? ⟨v, 2 + k, none⟩ = some (.slice a4 nr c4) := (HC.out w2 w3 _ _ pa pn pc hb2 hP.toBytG hown3 hg3 hv3).1; have f3 : w3.frozen? ⟨v, 2 + k, none⟩ = false := (HC.out w2 w3 _ _ pa pn pc hb2 hP.toBytG hown3 hg3 hv3).2.1))
    all_goals
      have HF : Hid (T11 At w v (put s k ((s k).send body)) ou x ys (w3.setCell ⟨v, 2 + k, none⟩ (.slice b3 (nr + 1) k3))) := (HC.out w2 w3 _ _ pa pn pc hb2 hP.toBytG hown3 hg3 hv3).2.2
      clear HV HC hown3 hg3 hv3 hP hown hb2
      go_wp2
      go_end0
      exact ⟨rfl, HF.out⟩
  · have hzd : (z == 0) = false := by simp [hz0]
    have hs : (s k).send body = s k := by unfold LS.send; rw [if_neg (by rw [← HZ.out]; exact hz0)]
    have HF : Hid (T11 At w v (put s k ((s k).send body)) ou x ys w1) := by
      refine ⟨g, _, u, rows, ⟨m1, ?_, m2, m3⟩⟩
      rw [hs, put_self]
      exact HJ.out.links
    clear m1 m2 m3 HJ hE HN hs
    go_wp2
    go_end0
    exact ⟨rfl, HF.out⟩
theorem send11_any {At : World → Nat → LS → (Nat → Prop) → Prop} (A : EndOk11 At) (v k : Nat) (s : Nat → LS) (ou : Nat → List Fr11) (x : Value) (ys : List (List Int)) (w w0 : World) (hk : k < 2) (h : T11 At w v s ou x ys w0) (p : Option Addr) (l c : Nat) (body : List Int) (hb : ∀ wx, Below w.heap.size w wx → Byts wx p l c body) (hnil : p = none → c = 0) (hlen : l ≤ 140737488355300) (hto : (s k).took.length ≤ 1000000) :
    Calls Try.prog 25 #[.pointer (some ⟨v, 0, none⟩), .int .i64 k, .slice p l c] w0 fun e w' => e = .returned (.tuple #[]) ∧ T11 At w v (put s k ((s k).send body)) ou x ys w' := by
  obtain ⟨g, T, u, rows, hJ⟩ := h
  exact send11_at A v k s ou x ys w w0 hk g T u rows hJ p l c body (fun wx o => hb wx (hJ.mem.below.trans (o.below (fun b e => hJ.mem.new k b (part_end hk e)) hJ.mem.below.size))) hnil hlen hto
end Go.Proofs.Ytjokbikelklaiaa

namespace Go.Proofs.Ytjokbikelklaiaa
open Go.RowKit

/-- Rows are appended to a row of rows. -/
theorem wp_appRows (w : World) {o : Oper} {a : Act} {K : Act → World → Prop} {Q : Exit → Act → World → Prop} (s x : Operand) (t : TypeId)
    (ho : o.op = .call { callee := .builtin .append, args := #[s, x], argTypes := #[t, t] }) (ht : Try.prog.underlying t = some (.slice 31))
    (v : Value) (vs : List Value) (n : Nat) (hs : a.eval s = v) (hown : w.ownsRow 0 31 1 v n vs) (y : Value) (us : List Value) (m : Nat) (hx : a.eval x = y) (hy : w.ownsRow 0 31 1 y m us) (hu1 : ∀ z, z ∈ us → z.oneCell' = true) (hn : n + m ≤ 2147483648)
    (h : ∀ v' w', w'.ownsRow 0 31 1 v' (n + m) (vs ++ us) → w.grownBy w' v.ownBlock → (v'.ownBlock = v.ownBlock ∨ v'.ownBlock = some w.heap.size) → K (a.put o.dst v') w') : Oper.wp Try.prog o a w K Q := by
  obtain ⟨i0, hi, hz0, hz1, hz2⟩ := info_parts Try.infoBL
  have hl := hy.1
  rcases hy.2 with ⟨rfl, hm⟩ | ⟨g, cap, cur, rfl, -, hg, -, -, -, -⟩
  · subst hm
    have e : us = [] := List.eq_nil_of_length_eq_zero (by omega)
    subst e
    have hrun := run_append_owned_none (P := Try.prog) w 0 t o.type 31 i0 1 ht hi _ _ _ hown
    unfold Oper.wp
    simp [execOp, ho, resolve, invoke, builtin, hs, hx, hrun, Result.andThen]
    exact h v w (by simpa using hown) (World.grownBy.refl _ _) (.inl rfl)
  · obtain ⟨v', w', hr, h2, h3, h4, h5⟩ := run_append_own_at (P := Try.prog) w 0 t o.type 31 i0 (.slice none 0 0) 1 24 ht hi hz0 hz1 hz2 rfl (by decide) v n vs hown ⟨g, 0, none⟩ m cap us (by omega) (fun j q hj => World.ownsRow.cells hy rfl j q hj) hu1 (by unfold maxLen; omega) (by omega) (Nat.zero_le _)
    unfold Oper.wp
    simp [execOp, ho, resolve, invoke, builtin, hs, hx, hr, Result.andThen]
    exact h v' w' h2 h3 h5
theorem step_appRows (w : World) {ops : Array Oper} {o : Oper} {a : Act} {K : Act → World → Prop} {Q : Exit → Act → World → Prop} {E : Prop} (hgd : o.guard = none) (s x : Operand) (t : TypeId)
    (ho : o.op = .call { callee := .builtin .append, args := #[s, x], argTypes := #[t, t] }) (ht : Try.prog.underlying t = some (.slice 31))
    (v : Value) (vs : List Value) (n : Nat) (hs : a.eval s = v) (hown : w.ownsRow 0 31 1 v n vs) (y : Value) (us : List Value) (m : Nat) (hx : a.eval x = y) (hy : w.ownsRow 0 31 1 y m us) (hu1 : ∀ z, z ∈ us → z.oneCell' = true) (hn : n + m ≤ 2147483648)
    (h : ∀ v' w', w'.ownsRow 0 31 1 v' (n + m) (vs ++ us) → w.grownBy w' v.ownBlock → (v'.ownBlock = v.ownBlock ∨ v'.ownBlock = some w.heap.size) → K (a.put o.dst v') w') : if Region.wanted o (yielded ops a.tmps) = true then Oper.wp Try.prog o a w K Q else E := by
  rw [if_pos (by simp [Region.wanted, hgd])]
  exact wp_appRows w s x t ho ht v vs n hs hown y us m hx hy hu1 hn h
theorem rows_one {w : World} {Ls : List (List Int)} {vs : List Value} (hl : vs.length = Ls.length) (h : ∀ i, i < Ls.length → ∃ p n c, vs[i]? = some (.slice p n c) ∧ BytG w p n c (Ls.getD i [])) : ∀ z, z ∈ vs → z.oneCell' = true := fun z hz => by
  obtain ⟨j, hj, rfl⟩ := List.mem_iff_getElem.1 hz
  obtain ⟨p, n, c, e, -⟩ := h j (by omega)
  rw [List.getElem?_eq_getElem hj] at e
  rw [Option.some.inj e]
  rfl
/-- What a law let out is more. -/
theorem J11.outs {At : World → Nat → LS → (Nat → Prop) → Prop} (A : EndKept11 At) {w wx w3 : World} {v k : Nat} {s : Nat → LS} {ou : Nat → List Fr11} {x y : Value} {ys : List (List Int)} {g : Nat → Nat} {T : Nat → Nat → Prop} {u : Nat → Value} {rows : Nat → List (List Int)} {vs us : List Value} (hk : k < 2) (hm : W11 At w v g (put s k (s k).out) T u rows wx) (hl : Links11 s ou rows) (hx : RowB wx x ys) (hf : ∀ b, x.ownBlock = some b → w.heap.size ≤ b ∧ ∀ p, ¬ part11 v T u p b) (hfr : IsFrs (s k).outF ys) (hvs : wx.ownsRow 0 31 1 (u (4 + k)) (rows (4 + k)).length vs)
    (hvb : ∀ i, i < (rows (4 + k)).length → ∃ p n c, vs[i]? = some (.slice p n c) ∧ BytG wx p n c ((rows (4 + k)).getD i [])) (hub : ∀ i, i < ys.length → ∃ p n c, us[i]? = some (.slice p n c) ∧ BytG wx p n c (ys.getD i [])) (hown : w3.ownsRow 0 31 1 y ((rows (4 + k)).length + ys.length) (vs ++ us)) (hg : wx.grownBy w3 (u (4 + k)).ownBlock) (hv : y.ownBlock = (u (4 + k)).ownBlock ∨ y.ownBlock = some wx.heap.size) :
    w3.cell? ⟨v, 6 + k, none⟩ = some (u (4 + k)) ∧ w3.frozen? ⟨v, 6 + k, none⟩ = false ∧ T11 At w v (put s k (s k).out) (put ou k (ou k ++ (s k).outF)) x ys (w3.setCell ⟨v, 6 + k, none⟩ y) := by
  have o1 : Only (fun b => (u (4 + k)).ownBlock = some b) wx w3 := Only.of_grown hg (fun b e => e)
  have hnb : ∀ b, (u (4 + k)).ownBlock = some b → ¬ IsB wx b := (hm.row (4 + k) (by omega)).notB
  have hrow : RowB w3 y (rows (4 + k) ++ ys) := RowB.join hown (by have := hvs.1; omega) (fun i hi => by
    obtain ⟨p', n', c', e, hb'⟩ := hvb i hi
    exact ⟨p', n', c', e, hb'.only o1 hnb⟩) (fun i hi => by
    obtain ⟨p', n', c', e, hb'⟩ := hub i hi
    exact ⟨p', n', c', e, hb'.only o1 hnb⟩)
  obtain ⟨k1, k2, k3⟩ := hm.onRow A (j := 4 + k) (by omega) (Below.refl _ _) hg hv hrow
  obtain ⟨k4, k5⟩ := J11.onRow A hm hx hf (j := 4 + k) (by omega) (Below.refl _ _) hg hv
  rw [show 2 + (4 + k) = 6 + k by omega] at k1 k2 k3 k4
  refine ⟨k1, k2, g, T, _, _, ⟨k3, fun i hi => ?_, k4, k5⟩⟩
  obtain ⟨r1, r2, r3⟩ := hl i hi
  by_cases q : i = k
  · subst q
    rw [put_same, put_same]
    refine ⟨by rw [put_other _ _ (by omega)]; exact r1, by rw [put_other _ _ (by omega)]; exact r2, ?_⟩
    rw [put_same]
    exact r3.append hfr
  · rw [put_other s _ q, put_other ou _ q]
    exact ⟨by rw [put_other _ _ (by omega)]; exact r1, by rw [put_other _ _ (by omega)]; exact r2, by rw [put_other _ _ (by omega)]; exact r3⟩

set_option maxRecDepth 20000 in
set_option maxHeartbeats 6400000 in
theorem flush11_any {At : World → Nat → LS → (Nat → Prop) → Prop} (A : EndOk11 At) (v k : Nat) (s : Nat → LS) (ou : Nat → List Fr11) (x : Value) (ys : List (List Int)) (w w0 : World) (hk : k < 2) (h : T11 At w v s ou x ys w0) (hou : (ou k).length ≤ 1000000) :
    Calls Try.prog 26 #[.pointer (some ⟨v, 0, none⟩), .int .i64 k] w0 fun e w' => ∃ x' ys', e = .returned x' ∧ IsFrs (s k).outF ys' ∧ T11 At w v (put s k (s k).out) (put ou k (ou k ++ (s k).outF)) x' ys' w' := by
  have hki : (k : Int) < 2 := by omega
  have hk0 : (0 : Int) ≤ (k : Int) := by omega
  obtain ⟨g, T, u, rows, hJ⟩ := h
  have ck : w0.cell? ⟨v, k, none⟩ = some (.pointer (some ⟨g k, 0, none⟩)) := by rw [cell_of_row w0 v k _ _ _ hJ.mem.heap]; exact cells11_end g u hk
  have HN := (show Hid _ from A.out (g k) (s k) (T k) w0 (hJ.mem.ends k hk))
  obtain ⟨gk, hgk⟩ : ∃ gk, gk = g k := ⟨_, rfl⟩
  rw [← hgk] at ck HN
  have HG : Hid (gk = g k) := hgk
  have hlf := LS.outF_len (s k) (A.foot (hJ.mem.ends k hk)).1
  have HJ : Hid (J11 At w v s ou x ys g T u rows w0 ∧ (s k).outF.length ≤ 100) := ⟨hJ, hlf⟩
  clear hJ hgk hlf
  go_enter Try.func26, Try.ntmps26
  go_wp2_with fail
  refine Calls.mono HN.out ?_
  rintro e w1 ⟨x', T', rfl, hE1, hE2, hE3, ⟨ys', q1, q2, q3, q4⟩, q5⟩
  rw [HG.out] at hE1
  have hold := HJ.out.1.mem.old A.toEndKept11
  obtain ⟨m1, -, -⟩ := HJ.out.1.onEnd A.toEndKept11 hk ⟨hE1, hE2, hE3⟩
  have hfr : IsFrs (s k).outF ys' := ⟨q3, q4⟩
  have m3 : ∀ b, x'.ownBlock = some b → w.heap.size ≤ b ∧ ∀ p, ¬ part11 v (put T k T') u p b := fun b e => by
    have hb := q2 b e
    refine ⟨Nat.le_trans HJ.out.1.mem.below.size hb, fun p q => ?_⟩
    rcases q with ⟨hp, q⟩ | q | q
    · by_cases c : p = k
      · subst c
        rw [put_same] at q
        exact q5 b e q
      · rw [put_other _ _ c] at q
        have := (hold p b (.inl ⟨hp, q⟩)).1
        omega
    · have := (hold p b (.inr (.inl q))).1
      omega
    · have := (hold p b (.inr (.inr q))).1
      omega
  obtain ⟨us, hu1, hu2⟩ := q1
  obtain ⟨a5, c5, e5⟩ := row_slice hu1
  obtain ⟨vs, hv1, hv2⟩ := m1.row (4 + k) (by omega)
  obtain ⟨a4, c4, e4⟩ := row_slice hv1
  have hlenr : (rows (4 + k)).length + ys'.length ≤ 2147483648 := by
    rw [(HJ.out.1.links k hk).2.2.1, q3]
    have := HJ.out.2
    omega
  have HM : Hid (W11 At w v g (put s k (s k).out) (put T k T') u rows w1 ∧ RowB w1 x' ys' ∧ (∀ b, x'.ownBlock = some b → w.heap.size ≤ b ∧ ∀ p, ¬ part11 v (put T k T') u p b) ∧ IsFrs (s k).outF ys') := ⟨m1, ⟨us, hu1, hu2⟩, m3, hfr⟩
  obtain ⟨nr, hnr⟩ : ∃ nr, nr = (rows (4 + k)).length := ⟨_, rfl⟩
  obtain ⟨mr, hmr⟩ : ∃ mr, mr = ys'.length := ⟨_, rfl⟩
  rw [← hnr] at e4 hlenr
  rw [← hmr] at e5 hlenr
  have HNR : Hid (nr = (rows (4 + k)).length ∧ u (4 + k) = .slice a4 nr c4 ∧ mr = ys'.length ∧ x' = .slice a5 mr c5) := ⟨hnr, e4, hmr, e5⟩
  have HV : Hid (w1.ownsRow 0 31 1 (.slice a4 nr c4) nr vs ∧ w1.ownsRow 0 31 1 (.slice a5 mr c5) mr us ∧ (∀ z, z ∈ us → z.oneCell' = true)) := ⟨by rw [← e4, hnr]; exact hv1, by rw [← e5, hmr]; exact hu1, rows_one (by have := hu1.1; omega) hu2⟩
  have d4 : w1.cell? ⟨v, 6 + k, none⟩ = some (.slice a4 nr c4) := by
    rw [cell_of_row w1 v (6 + k) _ _ _ m1.heap, ← e4, show 6 + k = 2 + (4 + k) by omega]
    exact cells11_row g u (by omega)
  have HC : Hid (∀ (w3 : World) (y : Value), w3.ownsRow 0 31 1 y (nr + mr) (vs ++ us) → w1.grownBy w3 (Value.slice a4 nr c4).ownBlock → (y.ownBlock = (Value.slice a4 nr c4).ownBlock ∨ y.ownBlock = some w1.heap.size) → w3.cell? ⟨v, 6 + k, none⟩ = some (.slice a4 nr c4) ∧ w3.frozen? ⟨v, 6 + k, none⟩ = false ∧ T11 At w v (put s k (s k).out) (put ou k (ou k ++ (s k).outF)) (.slice a5 mr c5) ys' (w3.setCell ⟨v, 6 + k, none⟩ y)) := fun w3 y h1 h2 h3 => by
    have e := HNR.out.2.1
    have e' := HNR.out.2.2.2
    rw [← e] at h2 h3 ⊢
    rw [← e']
    exact J11.outs A.toEndKept11 hk HM.out.1 HJ.out.1.links HM.out.2.1 HM.out.2.2.1 HM.out.2.2.2 hv1 hv2 hu2 (by rw [← HNR.out.1, ← HNR.out.2.2.1]; exact h1) h2 h3
  subst e5
  clear m1 m3 hv1 hv2 hu1 hu2 hE1 hE2 hE3 hnr hmr e4 HN ck hold hfr q2 q3 q4 q5
  go_wp2_with fail
  go_region_law (first
    | (refine step_appRows _ (by rfl) _ _ 35 (by rfl) Try.underlying35 (.slice a4 nr c4) vs nr (by rfl) (by exact HV.out.1) (.slice a5 mr c5) us mr (by rfl) (by exact HV.out.2.1) HV.out.2.2 (by omega) ?_; rintro v3 w3 hown3 hg3 hv3; obtain ⟨b3, k3, rfl⟩ := row_slice hown3; replace hg3 := grown_undraw hg3; have z3 := (HC.out w3 _ hown3 hg3 hv3).1; have f3 := (HC.out w3 _ hown3 hg3 hv3).2.1))
  all_goals
    have HF : Hid (IsFrs (s k).outF ys' ∧ T11 At w v (put s k (s k).out) (put ou k (ou k ++ (s k).outF)) (.slice a5 mr c5) ys' (w3.setCell ⟨v, 6 + k, none⟩ (.slice b3 (nr + mr) k3))) := ⟨HM.out.2.2.2, (HC.out w3 _ hown3 hg3 hv3).2.2⟩
    clear HJ HM HV HC hown3 hg3 hv3 HNR
    go_wp2
    go_ret
    exact ⟨_, ys', rfl, HF.out.1, HF.out.2⟩
end Go.Proofs.Ytjokbikelklaiaa

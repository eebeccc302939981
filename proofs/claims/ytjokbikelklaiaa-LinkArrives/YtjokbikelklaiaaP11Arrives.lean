/-
  Stage 11's laws: the walk of LinkArrives.
-/
import Derived.Test.YtjokbikelklaiaaP11Order
import Derived.Lib.SlBytesConst
namespace Go.Proofs.Ytjokbikelklaiaa
open Go.RowKit

/-- The frames of one end come to the other one, some of them so far. -/
def came11 (s : Nat → LS) (k : Nat) (fs : List Fr11) (j : Nat) : Nat → LS := put s k ((s k).comes (fs.take j))
theorem came11_next (s : Nat → LS) (k : Nat) (fs : List Fr11) (j : Nat) (hj : j < fs.length) : put (came11 s k fs j) k ((came11 s k fs j k).inF (fs.getD j ⟨false, 0, 0, []⟩)) = came11 s k fs (j + 1) := by
  unfold came11
  rw [put_put, put_same, List.take_add_one]
  have : fs[j]? = some (fs.getD j ⟨false, 0, 0, []⟩) := by simp [List.getD, hj]
  rw [this]
  unfold LS.comes
  rw [List.foldl_append]
  rfl
theorem came11_zero (s : Nat → LS) (k : Nat) (fs : List Fr11) : came11 s k fs 0 = s := by
  unfold came11
  rw [List.take_zero, LS.comes_nil, put_self]
theorem came11_all (s : Nat → LS) (k : Nat) (fs : List Fr11) : came11 s k fs fs.length = put s k ((s k).comes fs) := by
  unfold came11
  rw [List.take_length]
theorem came11_both {s : Nat → LS} {ou : Nat → List Fr11} (h : BothF s ou) {k : Nat} (hk : k < 2) {fs : List Fr11} (hf : ∀ f, f ∈ fs → f ∈ ou (1 - k)) : ∀ j, j ≤ fs.length → BothF (came11 s k fs j) ou
  | 0, _ => by rw [came11_zero]; exact h
  | j + 1, hj => by
    rw [← came11_next s k fs j (by omega)]
    exact (came11_both h hk hf j (by omega)).in hk (hf _ (by simp [List.getD, show j < fs.length by omega]))
/-- Both ends behind so many rounds. -/
def rounds11 (s : Nat → LS) (i : Nat) : Nat → LS := fun k => if k = 0 then (rounds i (s 0, s 1)).1 else (rounds i (s 0, s 1)).2
theorem rounds11_zero {s : Nat → LS} {k : Nat} (hk : k < 2) : rounds11 s 0 k = s k := by
  rcases two_ways hk with rfl | rfl <;> rfl
theorem rounds11_next (s : Nat → LS) (i : Nat) : rounds11 s (i + 1) 0 = roundX (rounds11 s i 0) (rounds11 s i 1) ∧ rounds11 s (i + 1) 1 = roundY (rounds11 s i 0) (rounds11 s i 1) := by
  unfold rounds11
  rw [rounds_more]
  exact ⟨rfl, rfl⟩
theorem T11.ext {At : World → Nat → LS → (Nat → Prop) → Prop} {w : World} {v : Nat} {s s' : Nat → LS} {ou : Nat → List Fr11} {x : Value} {ys : List (List Int)} {wx : World} (h : T11 At w v s ou x ys wx) (e : ∀ k, k < 2 → s' k = s k) : T11 At w v s' ou x ys wx := by
  obtain ⟨g, T, u, rows, hJ⟩ := h
  refine ⟨g, T, u, rows, ⟨⟨hJ.mem.heap, fun k hk => by rw [e k hk]; exact hJ.mem.ends k hk, hJ.mem.row, hJ.mem.apart, hJ.mem.new, hJ.mem.below⟩, fun k hk => by rw [e k hk]; exact hJ.links k hk, hJ.beside, hJ.far⟩⟩
/-- One end's frames go to the other one. -/
def half11 (q : Nat → LS) (k : Nat) : Nat → LS := put (put q k (q k).out) (1 - k) ((put q k (q k).out (1 - k)).comes (q k).outF)
def halves11 (t : Nat → LS) : Nat → Nat → LS
  | 0 => t
  | k + 1 => half11 (halves11 t k) k
def ticks11 (s : Nat → LS) : Nat → LS := fun k => (s k).ticked
theorem halves11_round (s : Nat → LS) : halves11 (ticks11 s) 2 0 = roundX (s 0) (s 1) ∧ halves11 (ticks11 s) 2 1 = roundY (s 0) (s 1) := ⟨rfl, rfl⟩
theorem half11_all (q : Nat → LS) (k : Nat) : came11 (put q k (q k).out) (1 - k) (q k).outF (q k).outF.length = half11 q k := by
  rw [came11_all]
  rfl
theorem comes_took : ∀ (fs : List Fr11) (x : LS), (x.comes fs).took = x.took
  | [], _ => rfl
  | f :: fs, x => by rw [LS.comes_cons, comes_took fs, LS.in_took]
theorem half11_took (q : Nat → LS) {k i : Nat} (hk : k < 2) (hi : i < 2) : (half11 q k i).took = (q i).took := by
  unfold half11
  by_cases c : i = 1 - k
  · subst c
    rw [put_same, comes_took, put_other _ _ (by omega)]
  · have : i = k := by omega
    subst this
    rw [put_other _ _ c, put_same]
    rfl
theorem T11.ends {At : World → Nat → LS → (Nat → Prop) → Prop} (A : EndKept11 At) {w : World} {v k : Nat} {s : Nat → LS} {ou : Nat → List Fr11} {x : Value} {ys : List (List Int)} {wx : World} (h : T11 At w v s ou x ys wx) (hk : k < 2) : (s k).Fine := by
  obtain ⟨g, T, u, rows, hJ⟩ := h
  exact (A.foot (hJ.mem.ends k hk)).1
/-- A tick of one end. -/
theorem J11.ticked {At : World → Nat → LS → (Nat → Prop) → Prop} (A : EndKept11 At) {w wx wy : World} {v k : Nat} {s : Nat → LS} {ou : Nat → List Fr11} {x : Value} {ys : List (List Int)} {g : Nat → Nat} {T : Nat → Nat → Prop} {u : Nat → Value} {rows : Nat → List (List Int)} {T' : Nat → Prop} (h : J11 At w v s ou x ys g T u rows wx) (hk : k < 2) (hE : At wy (g k) (s k).ticked T' ∧ Only (T k) wx wy ∧ ∀ b, T' b → T k b ∨ wx.heap.size ≤ b) : T11 At w v (put s k (s k).ticked) ou x ys wy := by
  obtain ⟨m1, m2, m3⟩ := h.onEnd A hk hE
  refine ⟨g, _, u, rows, ⟨m1, fun i hi => ?_, m2, m3⟩⟩
  obtain ⟨r1, r2, r3⟩ := h.links i hi
  by_cases c : i = k
  · subst c
    rw [put_same]
    exact ⟨r1, r2, r3⟩
  · rw [put_other _ _ c]
    exact ⟨r1, r2, r3⟩
theorem A11.all {s' : Nat → LS} {ou : Nat → List Fr11} (h : BothF s' ou) (hb : ∀ i, i < 2 → (s' i).took.length ≤ 301) {k : Nat} (hk : k < 2) : (s' k).all.length ≤ 301 := by
  have := (h.begins hk).1
  have := hb (1 - k) (by omega)
  omega
theorem rounds11_end {S : Nat → LS} {ou : Nat → List Fr11} (h : BothF S ou) {R k : Nat} (hR : max ((S 0).took.length - (S 0).sure) ((S 1).took.length - (S 1).sure) + 2 ≤ R) (hk : k < 2) : (rounds11 S R k).took.length = (S k).took.length ∧ (rounds11 S R k).sure = (S k).took.length ∧ (rounds11 S R (1 - k)).all.length = (S k).took.length := by
  obtain ⟨⟨e1, e2⟩, e3, e4⟩ := rounds_end h hR
  obtain ⟨-, ⟨t1, t2⟩, -⟩ := rounds_do h R
  rcases two_ways hk with rfl | rfl
  · exact ⟨congrArg List.length t1, e1, e2⟩
  · exact ⟨congrArg List.length t2, e3, e4⟩
end Go.Proofs.Ytjokbikelklaiaa

/-
  A link that loses frames by their number: once frames come, all that was taken is got.
-/
import Derived.Test.YtnbdbahfekneoabL11A
namespace Go.Proofs.Ytnbdbahfekneoab
open Go.RowKit

/-- Of frames that go out, numbered from n on, those come that are not lost. -/
def comesM (m : Nat → Bool) : Nat → List Fr11 → LS → LS
  | _, [], x => x
  | n, f :: fs, x => comesM m (n + 1) fs (if m n = true then x else x.inF f)
theorem comesM_snoc (m : Nat → Bool) : ∀ (n : Nat) (fs : List Fr11) (f : Fr11) (x : LS), comesM m n (fs ++ [f]) x = (if m (n + fs.length) = true then comesM m n fs x else (comesM m n fs x).inF f)
  | n, [], f, x => rfl
  | n, g :: fs, f, x => by
    show comesM m (n + 1) (fs ++ [f]) _ = _
    rw [comesM_snoc m (n + 1) fs f, show n + 1 + fs.length = n + (g :: fs).length by simp; omega]
    rfl
theorem comesM_all (m : Nat → Bool) : ∀ (n : Nat) (fs : List Fr11) (x : LS), (∀ j, n ≤ j → m j = false) → comesM m n fs x = x.comes fs
  | n, [], x, _ => rfl
  | n, f :: fs, x, h => by
    show comesM m (n + 1) fs _ = _
    rw [comesM_all m (n + 1) fs _ (fun j hj => h j (by omega)), if_neg (by rw [h n (Nat.le_refl _)]; simp)]
    rfl
theorem Both.comesM {y : LS} {ox oy : List Fr11} (m : Nat → Bool) : ∀ (n : Nat) (fs : List Fr11) {x : LS}, Both x y ox oy → (∀ f, f ∈ fs → f ∈ oy) → Both (comesM m n fs x) y ox oy
  | _, [], _, h, _ => h
  | n, f :: fs, x, h, hf => by
    refine Both.comesM m (n + 1) fs ?_ (fun g hg => hf g (by simp [hg]))
    split
    · exact h
    · exact (h.in (hf f (by simp))).2
theorem in_same12 (x : LS) (f : Fr11) : (x.inF f).took = x.took ∧ (x.inF f).told = x.told ∧ x.sure ≤ (x.inF f).sure := by
  unfold LS.inF
  split
  · exact ⟨rfl, rfl, Nat.le_refl _⟩
  · split
    · obtain ⟨⟨-, d2, d3, -, d5, -⟩, -⟩ := LS.drain_of 16 (LS.keep { x.acked f.ack with owes := true } f.seq f.body)
      obtain ⟨-, k2, k3, -, k5, -⟩ := LS.keep_same { x.acked f.ack with owes := true } f.seq f.body
      refine ⟨d2.trans k2, d5.trans k5, ?_⟩
      rw [d3, k3]
      exact Nat.le_max_left _ _
    · exact ⟨rfl, rfl, Nat.le_max_left _ _⟩
theorem comesM_same (m : Nat → Bool) : ∀ (n : Nat) (fs : List Fr11) (x : LS), (comesM m n fs x).took = x.took ∧ (comesM m n fs x).told = x.told ∧ x.sure ≤ (comesM m n fs x).sure
  | _, [], _ => ⟨rfl, rfl, Nat.le_refl _⟩
  | n, f :: fs, x => by
    obtain ⟨h1, h2, h3⟩ := comesM_same m (n + 1) fs (if m n = true then x else x.inF f)
    obtain ⟨k1, k2, k3⟩ := in_same12 x f
    show (comesM m (n + 1) fs _).took = _ ∧ (comesM m (n + 1) fs _).told = _ ∧ _ ≤ (comesM m (n + 1) fs _).sure
    by_cases c : m n = true
    · rw [if_pos c] at h1 h2 h3 ⊢
      exact ⟨h1, h2, h3⟩
    · rw [if_neg c] at h1 h2 h3 ⊢
      exact ⟨h1.trans k1, h2.trans k2, Nat.le_trans k3 h3⟩
/-- The ends behind one round: the first one ticks and sends, the other one answers. -/
def tX (m : Nat → Bool) (n : Nat) (x y : LS) : LS := comesM m (n + x.ticked.outF.length) (comesM m n x.ticked.outF y).outF x.ticked.out
def tY (m : Nat → Bool) (n : Nat) (x y : LS) : LS := (comesM m n x.ticked.outF y).out
def tN (m : Nat → Bool) (n : Nat) (x y : LS) : Nat := n + x.ticked.outF.length + (comesM m n x.ticked.outF y).outF.length
/-- An end that took nothing lets out an answer alone. -/
theorem out_none {y : LS} (h : y.Fine) (ht : y.took = []) : y.outF = (if y.owes = true then [⟨false, 0, y.all.length, []⟩] else []) := by
  have h1 := h.sent
  have h2 := h.sure
  have h3 := (LS.due_le h).2.1
  rw [ht] at h1 h3
  simp at h1 h3
  have hD : y.outD = [] := by
    unfold LS.outD
    rw [h3, Nat.zero_sub]
    rfl
  unfold LS.outF
  rw [hD]
  simp
structure Round12 (m : Nat → Bool) (n : Nat) (x y : LS) : Prop where
  both : ∃ ox oy, Both (tX m n x y) (tY m n x y) ox oy
  took : (tX m n x y).took = x.took ∧ (tY m n x y).took = []
  told : (tY m n x y).told = y.told
  sure : x.sure ≤ (tX m n x y).sure
  some : x.sure < x.took.length → n + 1 ≤ tN m n x y
  most : n ≤ tN m n x y
  grows : (∀ j, n ≤ j → m j = false) → min x.took.length (x.sure + 1) ≤ (tX m n x y).sure
theorem round12 {x y : LS} {ox oy : List Fr11} (h : Both x y ox oy) (ht : y.took = []) (m : Nat → Bool) (n : Nat) : Round12 m n x y := by
  have h1 : Both x.ticked y ox oy := h.tick
  have a1 : x.ticked.all.length ≤ y.sent := by
    have := h1.kx.len
    rw [LS.sentL_len h1.fy] at this
    exact this
  have s1 : x.ticked.sure ≤ y.all.length := h1.ky.sure
  have o1 := came_out h1.fy h1.fx a1 rfl s1
  have h2 : Both x.ticked.out y (ox ++ x.ticked.outF) oy := h1.out
  obtain ⟨F, hF⟩ : ∃ F, F = x.ticked.outF := ⟨_, rfl⟩
  obtain ⟨Y, hY⟩ : ∃ Y, Y = comesM m n x.ticked.outF y := ⟨_, rfl⟩
  have h3 : Both x.ticked.out Y (ox ++ x.ticked.outF) oy := by
    rw [hY]
    exact (Both.comesM m n x.ticked.outF h2.turn (fun f hf => List.mem_append.2 (.inr hf))).turn
  have h4 : Both x.ticked.out Y.out (ox ++ x.ticked.outF) (oy ++ Y.outF) := h3.turn.out.turn
  have h5 : Both (comesM m (n + F.length) Y.outF x.ticked.out) Y.out (ox ++ x.ticked.outF) (oy ++ Y.outF) := Both.comesM m _ Y.outF h4 (fun f hf => List.mem_append.2 (.inr hf))
  have eX : tX m n x y = comesM m (n + F.length) Y.outF x.ticked.out := by rw [hY, hF]; rfl
  have eY : tY m n x y = Y.out := by rw [hY]; rfl
  have eN : tN m n x y = n + F.length + Y.outF.length := by rw [hY, hF]; rfl
  have sY := comesM_same m n x.ticked.outF y
  rw [← hY] at sY
  have sX := comesM_same m (n + F.length) Y.outF x.ticked.out
  have tYk : Y.took = [] := sY.1.trans ht
  refine ⟨by rw [eX, eY]; exact ⟨_, _, h5⟩, ⟨by rw [eX]; exact sX.1, by rw [eY]; exact tYk⟩, by rw [eY]; exact sY.2.1, by rw [eX]; exact sX.2.2, fun c => ?_, by rw [eN]; omega, fun hm => ?_⟩
  · have hne := (o1.2.2 c).2.2
    rw [← hF] at hne
    rw [eN]
    have : 0 < F.length := List.length_pos_iff.2 hne
    omega
  · rw [eX]
    by_cases c : x.sure < x.took.length
    · obtain ⟨q1, q2, -⟩ := o1.2.2 c
      have hYc : Y = y.comes x.ticked.outF := by rw [hY]; exact comesM_all m n _ _ hm
      rw [← hYc] at q1 q2
      have hout : Y.outF = [⟨false, 0, Y.all.length, []⟩] := by rw [out_none h3.fy tYk, if_pos q1]
      rw [comesM_all m _ _ _ (fun j hj => hm j (by omega)), hout, LS.comes_cons, LS.comes_nil]
      have hin := (h4.in (f := ⟨false, 0, Y.all.length, []⟩) (List.mem_append.2 (.inr (by rw [hout]; simp)))).1
      rw [(LS.in_ack h4.fx rfl hin).1]
      show _ ≤ max _ Y.all.length
      exact Nat.le_trans q2 (Nat.le_max_right _ _)
    · have hxs : x.ticked.out.sure = x.sure := rfl
      exact Nat.le_trans (by rw [hxs]; omega) sX.2.2
/-- What is known behind i rounds, when n frames went out, of which the first L may be lost. -/
structure Rounds12 (L i n : Nat) (x y : LS) : Prop where
  both : ∃ ox oy, Both x y ox oy
  tookY : y.took = []
  toldY : y.told = 0
  grown : x.sure = x.took.length ∨ (i ≤ n ∧ i ≤ L + x.sure)
theorem Rounds12.next {L i n : Nat} {x y : LS} (h : Rounds12 L i n x y) {m : Nat → Bool} (hm : ∀ j, L ≤ j → m j = false) : Rounds12 L (i + 1) (tN m n x y) (tX m n x y) (tY m n x y) ∧ (tX m n x y).took = x.took := by
  obtain ⟨ox, oy, hb⟩ := h.both
  have r := round12 hb h.tookY m n
  obtain ⟨ox', oy', hb'⟩ := r.both
  have h1 := hb'.fx.sure
  have h2 := hb'.fx.sent
  rw [r.took.1] at h2
  have h3 := r.sure
  refine ⟨⟨r.both, r.took.2, r.told.trans h.toldY, ?_⟩, r.took.1⟩
  rw [r.took.1]
  by_cases c : x.sure < x.took.length
  · obtain ⟨g1, g2⟩ : i ≤ n ∧ i ≤ L + x.sure := by
      rcases h.grown with e | e
      · omega
      · exact e
    have hs := r.some c
    by_cases hn : L ≤ n
    · have hg := r.grows (fun j hj => hm j (by omega))
      by_cases e : (tX m n x y).sure = x.took.length
      · exact .inl e
      · exact .inr ⟨by omega, by omega⟩
    · exact .inr ⟨by omega, by omega⟩
  · exact .inl (by omega)
/-- Behind as many rounds as there may be lost frames and messages, all is got; else there were too many that might be lost. -/
theorem Rounds12.end {L i n : Nat} {x y : LS} (h : Rounds12 L i n x y) (hi : (i = L + x.took.length + 2) ∨ (i = 1000 ∧ x.took.length ≤ 50)) : y.all = x.took.take y.all.length ∧ y.all.length ≤ x.took.length ∧ (y.all.length = x.took.length ∨ 500 < L) := by
  obtain ⟨ox, oy, hb⟩ := h.both
  obtain ⟨b1, b2, b3⟩ := hb.turn.begins
  have h1 := hb.fx.sure
  have h2 := hb.fx.sent
  refine ⟨b2, b1, ?_⟩
  rcases h.grown with e | ⟨g1, g2⟩
  · exact .inl (by omega)
  · rcases hi with e | ⟨e, e2⟩
    · omega
    · exact .inr (by omega)
end Go.Proofs.Ytnbdbahfekneoab

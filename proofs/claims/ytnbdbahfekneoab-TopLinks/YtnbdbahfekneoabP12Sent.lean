/-
  The messages that an end has taken, and their bytes.
-/
import Derived.Test.YtnbdbahfekneoabP12Msgs
import Derived.Test.YtnbdbahfekneoabP12Two
namespace Go.Proofs.Ytnbdbahfekneoab
open Go.RowKit

/-- A message may be, and these are its bytes. -/
def MD.Is (d : MD) (ys : List Int) : Prop := RightM d.k d.a d.b d.c d.ids d.rows d.nats ∧ IsMsg d.k d.a d.b d.c d.ids d.rows d.nats ys ∧ ys.length ≤ 1048576
/-- An end that has taken these messages, and no more. -/
structure SentOk (w : World) (N : Nat) (ds : List MD) (st : LS) : Prop where
  both : Both st (LS.new N) [] []
  len : st.took.length = ds.length
  sure : st.sure = 0
  msgs : ∀ (j : Nat) (d : MD), ds[j]? = some d → d.In w ∧ d.Is (st.took.getD j [])
theorem SentOk.new (w : World) {N : Nat} (h : 1 ≤ N ∧ N ≤ 16) : SentOk w N [] (LS.new N) := ⟨Both.new h, rfl, rfl, fun j d e => by simp at e⟩
theorem SentOk.snoc {w : World} {N : Nat} {ds : List MD} {st : LS} (h : SentOk w N ds st) {d : MD} {ys : List Int} (hd : d.In w) (hy : d.Is ys) (hl : ds.length < 50) : st.sendE ys = 0 ∧ SentOk w N (ds ++ [d]) (st.send ys) := by
  have h1 := h.len
  have h2 := h.sure
  have he : st.sendE ys = 0 := by
    unfold LS.sendE
    have := hy.2.2
    rw [if_neg (by omega), if_neg (by omega)]
  have hs : st.send ys = { st with took := st.took ++ [ys] } := by
    unfold LS.send
    rw [if_pos he]
  refine ⟨he, ⟨h.both.send ys, by rw [hs]; simp [h1], by rw [hs]; exact h2, fun j e he' => ?_⟩⟩
  rw [hs]
  show e.In w ∧ e.Is ((st.took ++ [ys]).getD j [])
  by_cases c : j < ds.length
  · rw [List.getElem?_append_left c] at he'
    rw [show (st.took ++ [ys]).getD j [] = st.took.getD j [] by unfold List.getD; rw [List.getElem?_append_left (by omega)]]
    exact h.msgs j e he'
  · have hj : j < (ds ++ [d]).length := (List.getElem?_eq_some_iff.1 he').1
    obtain rfl : j = ds.length := by simp at hj; omega
    rw [List.getElem?_append_right (Nat.le_refl _), Nat.sub_self] at he'
    simp at he'
    subst he'
    rw [show (st.took ++ [ys]).getD ds.length [] = ys by rw [← h1]; simp [List.getD]]
    exact ⟨hd, hy⟩
/-- The rounds begin. -/
theorem SentOk.begin {w : World} {N : Nat} {ds : List MD} {st : LS} (h : SentOk w N ds st) (L : Nat) : Rounds12 L 0 0 st (LS.new N) := ⟨⟨_, _, h.both⟩, rfl, rfl, .inr ⟨Nat.le_refl _, Nat.zero_le _⟩⟩
end Go.Proofs.Ytnbdbahfekneoab

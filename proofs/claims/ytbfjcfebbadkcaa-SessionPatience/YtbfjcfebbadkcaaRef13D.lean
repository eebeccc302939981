/-
  Contracts of the document's session: Await.
-/
import Derived.Test.YtbfjcfebbadkcaaRef13C
import Derived.Test.YtbfjcfebbadkcaaW12B
import Derived.Deep.RegionLawGrows
namespace Go.Proofs.Ytbfjcfebbadkcaa
open Go.RowKit

/-- The three cells that tell of one peer are others. -/
theorem RCur13.put {w : World} {g : Nat} {cur : Array Value} {st : SS} {T T' : Nat → Prop} (h : RCur13 w g cur st T) {p : Nat} (hp : p < 16) {b : Bool} {t : Int} {a : Option Addr} {l c : Nat} {x : Option (Nat × List Int)} (hT : ∀ q, T q → T' q) (hT' : ∀ q, T' q → q < w.heap.size) (hW : st.phase = 0 → WOk13 w g T' b t a l c x) : ∃ cur', RCur13 (((w.setCell ⟨g, 6 + p * 3, none⟩ (.bool b)).setCell ⟨g, 6 + p * 3 + 1, none⟩ (.int .i64 t)).setCell ⟨g, 6 + p * 3 + 2, none⟩ (.slice a l c)) g cur' (st.put p x) T' := by
  have hs : 53 < cur.size := by
    obtain ⟨b, t, a, l, c, e1, e2, e3, e4⟩ := h.ws 15 (by decide)
    exact (Array.getElem?_eq_some_iff.1 e3).1
  have k1 := heap_setCell_same w g (6 + p * 3) _ _ (.bool b) h.heap
  have k2 := heap_setCell_same _ g (6 + p * 3 + 1) _ _ (.int .i64 t) k1
  have k3 := heap_setCell_same _ g (6 + p * 3 + 2) _ _ (.slice a l c) k2
  have key : ∀ j, j ≠ 6 + p * 3 → j ≠ 6 + p * 3 + 1 → j ≠ 6 + p * 3 + 2 → (((cur.setIfInBounds (6 + p * 3) (.bool b)).setIfInBounds (6 + p * 3 + 1) (.int .i64 t)).setIfInBounds (6 + p * 3 + 2) (.slice a l c))[j]? = cur[j]? := fun j h4 h5 h6 => by
    rw [Array.getElem?_setIfInBounds, if_neg (by omega), Array.getElem?_setIfInBounds, if_neg (by omega), Array.getElem?_setIfInBounds, if_neg (by omega)]
  have o3 : Only (fun q => q = g) w (((w.setCell ⟨g, 6 + p * 3, none⟩ (.bool b)).setCell ⟨g, 6 + p * 3 + 1, none⟩ (.int .i64 t)).setCell ⟨g, 6 + p * 3 + 2, none⟩ (.slice a l c)) := Only.trans (Only.trans (only_set (T := fun q => q = g) rfl) (only_set (T := fun q => q = g) rfl) (fun _ e => .inl e)) (only_set (T := fun q => q = g) rfl) (fun _ e => .inl e)
  refine ⟨_, ⟨k3, (key 0 (by omega) (by omega) (by omega)).trans h.c0, (key 1 (by omega) (by omega) (by omega)).trans h.c1, (key 2 (by omega) (by omega) (by omega)).trans h.c2, (key 3 (by omega) (by omega) (by omega)).trans h.c3, (key 4 (by omega) (by omega) (by omega)).trans h.c4, (key 5 (by omega) (by omega) (by omega)).trans h.c5, fun q hq => ?_, hT g h.gT, fun b e => Nat.lt_of_lt_of_le (hT' b e) o3.size⟩⟩
  by_cases e : q = p
  · subst e
    refine ⟨b, t, a, l, c, ?_, ?_, ?_, fun h0 => ?_⟩
    · rw [Array.getElem?_setIfInBounds, if_neg (by omega), Array.getElem?_setIfInBounds, if_neg (by omega), Array.getElem?_setIfInBounds, if_pos rfl, if_pos (by omega)]
    · rw [Array.getElem?_setIfInBounds, if_neg (by omega), Array.getElem?_setIfInBounds, if_pos rfl, if_pos (by simp; omega)]
    · rw [Array.getElem?_setIfInBounds, if_pos rfl, if_pos (by simp; omega)]
    · have e : (st.put q x).waits q = x := by show (if q = q then _ else _) = _; rw [if_pos rfl]
      rw [e]
      exact (hW h0).only o3 (fun q e => .inl e)
  · obtain ⟨b', t', a', l', c', e1, e2, e3, e4⟩ := h.ws q hq
    refine ⟨b', t', a', l', c', (key _ (by omega) (by omega) (by omega)).trans e1, (key _ (by omega) (by omega) (by omega)).trans e2, (key _ (by omega) (by omega) (by omega)).trans e3, fun h0 => ?_⟩
    have e5 : (st.put p x).waits q = st.waits q := by show (if q = p then _ else _) = _; rw [if_neg e]
    rw [e5]
    have e6 := (e4 h0).only o3 (fun q e => .inl e)
    cases ex : st.waits q with
    | none => rw [ex] at e6; exact e6
    | some y =>
      rw [ex] at e6
      exact ⟨e6.1, e6.2.1, e6.2.2.1, fun ad ea => ⟨hT _ (e6.2.2.2 ad ea).1, (e6.2.2.2 ad ea).2⟩⟩
theorem RSes.waits {w w5 : World} {g : Nat} {st : SS} {T : Nat → Prop} (h : RSes w g st T) (hb : Below w.heap.size w w5) {ks : List Int} {a5 : Option Addr} {l5 c5 B : Nat} (hown : w5.ownsRow B 3 1 (.slice a5 l5 c5) ks.length (ks.map (Value.int .i64))) (hB : w.heap.size ≤ B) (hd : ∀ x, x ∈ ks → -9223372036854775808 ≤ x ∧ x < 9223372036854775808) {p : Nat} (hp : p < st.parties) : SesT13 RSes w g (st.put p (some (st.now, ks))) T (((w5.setCell ⟨g, 6 + p * 3, none⟩ (.bool true)).setCell ⟨g, 6 + p * 3 + 1, none⟩ (.int .i64 (st.now : Int))).setCell ⟨g, 6 + p * 3 + 2, none⟩ (.slice a5 l5 c5)) := by
  obtain ⟨hF, cur, hc⟩ := h
  have hgo := hc.old g hc.gT
  obtain ⟨a', c', e, hL, -⟩ := IOwn.lsts (base := B) hown hd
  injection e with i1 i2 i3
  subst i1 i2 i3
  have hlt := World.ownsRow.lt hown
  have hF' : (st.put p (some (st.now, ks))).Fine := hF.put (fun y e => by cases e; exact ⟨hp, Nat.le_refl _, Nat.le_add_right _ _⟩)
  obtain ⟨cur', hc'⟩ := (hc.below hb).put (T' := fun q => T q ∨ (Value.slice a5 ks.length c5).ownBlock = some q) (p := p) (b := true) (t := (st.now : Int)) (a := a5) (l := ks.length) (c := c5) (x := some (st.now, ks)) (by have := hF.par.2; omega) (fun q e => .inl e) (fun q e => by
    rcases e with e | e
    · exact Nat.lt_of_lt_of_le (hc.old q e) hb.size
    · exact (hlt q e).2) (fun _ => ⟨rfl, rfl, hL, fun ad e => by
      subst e
      have := (hlt ad.block rfl).1
      exact ⟨.inr rfl, by omega⟩⟩)
  exact ⟨_, ⟨hF', cur', hc'⟩, Only.trans (Only.of_below hb) (Only.trans (Only.trans (only_set hc.gT) (only_set hc.gT) (fun _ e => .inl e)) (only_set hc.gT) (fun _ e => .inl e)) (fun _ e => .inl e), fun b e => by
    rcases e with e | e
    · exact .inl e
    · exact .inr (Nat.le_trans hB (hlt b e).1)⟩
theorem SesT13.drew {w w' : World} {g : Nat} {st : SS} {T : Nat → Prop} (h : SesT13 RSes w g st T w') : SesT13 RSes w g st T w'.drew := by
  obtain ⟨T', h1, h2, h3⟩ := h
  exact ⟨T', rses_kept.below h1 (bdr12 (Below.refl _ _)), h2.drew, h3⟩
theorem kindsOk_all {ks : List Int} (h : ∀ j, j < ks.length → 1 ≤ ks.getD j 0 ∧ ks.getD j 0 ≤ 11) : kindsOk ks = true := List.all_eq_true.2 fun x hx => by
  obtain ⟨j, hj, rfl⟩ := List.mem_iff_getElem.1 hx
  have := h j hj
  rw [show ks.getD j 0 = ks[j] by simp [List.getD, hj]] at this
  simp
  exact this
theorem kindsOk_not {ks : List Int} {j : Nat} (hj : j < ks.length) (h : ks.getD j 0 < 1 ∨ 11 < ks.getD j 0) : kindsOk ks = false := by
  cases e : kindsOk ks
  · rfl
  · have := List.all_eq_true.1 e ks[j] (List.getElem_mem hj)
    rw [show ks.getD j 0 = ks[j] by simp [List.getD, hj]] at h
    simp at this
    omega
end Go.Proofs.Ytbfjcfebbadkcaa

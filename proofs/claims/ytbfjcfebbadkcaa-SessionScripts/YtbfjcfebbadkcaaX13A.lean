/-
  The program's session in memory: a map of whom it waits for; how the session lies.
-/
import Derived.Test.YtbfjcfebbadkcaaS13Mem
import Derived.Maps.RangeWalk
namespace Go.Proofs.Ytbfjcfebbadkcaa
open Go.RowKit Go.Maps

/-- Whether a kind is among them. -/
def kb (ks : List Int) (j : Nat) : Bool := decide ((j : Int) ∈ ks)
def kcells (f : Nat → Bool) : Array Value := #[.bool (f 0), .bool (f 1), .bool (f 2), .bool (f 3), .bool (f 4), .bool (f 5), .bool (f 6), .bool (f 7), .bool (f 8), .bool (f 9), .bool (f 10), .bool (f 11)]
def wcells (t : Int) (f : Nat → Bool) : Array Value := #[.int .i64 t, .bool (f 0), .bool (f 1), .bool (f 2), .bool (f 3), .bool (f 4), .bool (f 5), .bool (f 6), .bool (f 7), .bool (f 8), .bool (f 9), .bool (f 10), .bool (f 11)]
def wv (x : Nat × List Int) : Value := .agg (wcells (x.1 : Int) (kb x.2))
/-- What a look finds. -/
def wvo : Option (Nat × List Int) → Value
  | none => .agg (wcells 0 (fun _ => false))
  | some x => wv x
theorem kcells_list (f : Nat → Bool) : kcells f = ((List.range 12).map fun j => Value.bool (f j)).toArray := rfl
theorem kcells_get (f : Nat → Bool) (j : Nat) (hj : j < 12) : (kcells f)[j]? = some (.bool (f j)) := by
  rw [kcells_list]
  simp [hj]
theorem kcells_size (f : Nat → Bool) : (kcells f).size = 12 := rfl
theorem kcells_one (f : Nat → Bool) : (kcells f).all (·.oneCell') = true := by kernel_rfl
theorem wcells_one (t : Int) (f : Nat → Bool) : (wcells t f).all (·.oneCell') = true := by kernel_rfl
theorem kcells_set (f : Nat → Bool) (k : Nat) (b : Bool) : (kcells f).setIfInBounds k (.bool b) = kcells (fun j => if j = k then b else f j) := by
  apply Array.ext_getElem?
  intro i
  rw [Array.getElem?_setIfInBounds]
  by_cases hi : i < 12
  · by_cases e : k = i
    · rw [if_pos e, if_pos (by rw [kcells_size]; omega), kcells_get _ i hi, if_pos e.symm]
    · rw [if_neg e, kcells_get _ i hi, kcells_get _ i hi, if_neg (fun q => e q.symm)]
  · have h1 : ∀ g : Nat → Bool, (kcells g)[i]? = none := fun g => Array.getElem?_eq_none (by rw [kcells_size]; omega)
    rw [h1, h1]
    by_cases e : k = i
    · rw [if_pos e, if_neg (by rw [kcells_size]; omega)]
    · rw [if_neg e]
def tok13 (v : Value) : Option (DataW Value × List MemPlace) := some (.held v, [])
theorem key13 : Keyed Try.prog 3 := int_keyed Try.underlying3
def pkey (k : Nat) : Lit := .int .i64 (k : Int)
theorem pkey_of {k : Nat} (h : k < 9223372036854775808) : keyOf Try.prog 3 (.int .i64 (k : Int)) = some (pkey k) := keyOf_int_mk Try.underlying3 (WalkArith.wf_i64 (by omega))
theorem pkey_ne {k m : Nat} (h : k ≠ m) : pkey k ≠ pkey m := fun e => h (by unfold pkey at e; injection e with _ e; omega)
theorem pkey_lit (k : Nat) : WideAt.IsKeyLit (pkey k) := trivial
theorem few13 : ∀ (k : Nat) (l : List Nat), l.Nodup → (∀ x, x ∈ l → x < k) → l.length ≤ k
  | 0, l, _, h => by
    cases l with
    | nil => exact Nat.le_refl _
    | cons x l => have := h x (List.mem_cons_self ..); omega
  | k + 1, l, hn, h => by
    by_cases hx : k ∈ l
    · have h1 := few13 k (l.erase k) (hn.erase _) (fun x hm => by
        rw [hn.mem_erase_iff] at hm
        have := h x hm.2
        have := hm.1
        omega)
      rw [List.length_erase_of_mem hx] at h1
      omega
    · have h1 := few13 k l hn (fun x hm => by
        have := h x hm
        have : x ≠ k := fun e => hx (e ▸ hm)
        omega)
      omega
/-- Block b is a map of whom it waits for. -/
def WaitsM (w : World) (b : Nat) (ws : Nat → Option (Nat × List Int)) : Prop :=
  ∃ (D : DataW Value) (ks : List Nat), w.ownsMap Try.prog 3 tok13 b (size D) D ∧ ks.Nodup ∧ size D = ks.length ∧ (∀ k, k ∈ ks ↔ ws k ≠ none) ∧ (∀ x : Int, has D (.int .i64 x) = true → ∃ k : Nat, x = (k : Int) ∧ ws k ≠ none) ∧ ∀ k y, ws k = some y → has D (pkey k) = true ∧ ∀ z, D.atKey (pkey k) z = .held (wv y)
theorem ownsMap_tight13 {w : World} {b n : Nat} {D : DataW Value} (h : w.ownsMap Try.prog 3 tok13 b n D) : w.ownsMap Try.prog 3 tok13 b (size D) D := by
  obtain ⟨es, clock, hb, F, hs, rfl⟩ := h
  exact ⟨es, clock, hb, F, by simp [Maps.size, length_sorted], rfl⟩
theorem waits_none_has {ws : Nat → Option (Nat × List Int)} {D : DataW Value} (h5 : ∀ x : Int, has D (.int .i64 x) = true → ∃ k : Nat, x = (k : Int) ∧ ws k ≠ none) {k : Nat} (hk : ws k = none) : has D (pkey k) = false := by
  cases e : has D (pkey k) with
  | false => rfl
  | true =>
    obtain ⟨m, h1, h2⟩ := h5 (k : Int) e
    obtain rfl : k = m := by omega
    exact absurd hk h2
theorem WaitsM.new (w : World) : WaitsM (w.alloc (.map #[] 0)) w.heap.size (fun _ => none) :=
  ⟨.map [], [], World.ownsMap_made w _ _ _, List.nodup_nil, rfl, fun k => by simp, fun x e => (by cases e), fun k y e => (by cases e)⟩
theorem WaitsM.lt {w : World} {b : Nat} {ws : Nat → Option (Nat × List Int)} (h : WaitsM w b ws) : b < w.heap.size := by
  obtain ⟨D, ks, h1, _⟩ := h
  exact h1.lt
theorem WaitsM.block {w w' : World} {b : Nat} {ws : Nat → Option (Nat × List Int)} (h : WaitsM w b ws) (k : w'.heap[b]? = w.heap[b]?) : WaitsM w' b ws := by
  obtain ⟨D, ks, ⟨es, clock, hb, F, hs, hD⟩, h2⟩ := h
  exact ⟨D, ks, ⟨es, clock, k.trans hb, F, hs, hD⟩, h2⟩
theorem WaitsM.only {C : Nat → Prop} {w w' : World} {b : Nat} {ws : Nat → Option (Nat × List Int)} (h : WaitsM w b ws) (k : Only C w w') (hv : ¬ C b) : WaitsM w' b ws := h.block (k.block b h.lt hv)
theorem WaitsM.notRow {w : World} {b : Nat} {ws : Nat → Option (Nat × List Int)} (h : WaitsM w b ws) {c : Array Value} {t : TypeId} {f : Nat × Nat} : w.heap[b]? ≠ some (.cells c t f) := by
  obtain ⟨D, ks, ⟨es, clock, hb, _⟩, _⟩ := h
  rw [hb]
  intro e
  cases e
theorem zero_wait (w : World) : (zeroValue 70).run Try.prog w = .ok (.agg (wcells 0 (fun _ => false))) w := by kernel_rfl
theorem waits_is {ws : Nat → Option (Nat × List Int)} {D : DataW Value} {v : Value} {ps : List MemPlace} (h5 : ∀ x : Int, has D (.int .i64 x) = true → ∃ k : Nat, x = (k : Int) ∧ ws k ≠ none) (h6 : ∀ k y, ws k = some y → has D (pkey k) = true ∧ ∀ z, D.atKey (pkey k) z = .held (wv y)) {k : Nat} (hv : tok13 v = some (D.atKey (pkey k) (.held (.agg (wcells 0 (fun _ => false)))), ps)) : v = wvo (ws k) := by
  have hv' : D.atKey (pkey k) (.held (.agg (wcells 0 (fun _ => false)))) = .held v := by
    unfold tok13 at hv
    have := congrArg (Option.map Prod.fst) hv
    simpa using this.symm
  cases q : ws k with
  | none =>
    rw [atKey_of_not_has (waits_none_has h5 q)] at hv'
    exact (DataW.held.inj hv').symm
  | some y =>
    rw [(h6 k y q).2] at hv'
    exact (DataW.held.inj hv').symm
/-- What a look tells. -/
theorem WaitsM.look {w : World} {b : Nat} {ws : Nat → Option (Nat × List Int)} (h : WaitsM w b ws) {k : Nat} (hk : k < 9223372036854775808) : (Instr.lookup 49 (.map (some b)) (.int .i64 (k : Int)) true).run Try.prog w = .ok (.tuple #[wvo (ws k), .bool (ws k).isSome]) w := by
  obtain ⟨D, ks, h1, h2, h3, h4, h5, h6⟩ := h
  obtain ⟨v, ps, hr, hv⟩ := h1.look_ok key13 Try.underlying49 (zero_wait w) (zd := .held (.agg (wcells 0 (fun _ => false)))) (zp := []) rfl (pkey_of hk)
  rw [hr, waits_is h5 h6 hv]
  cases q : ws k with
  | none => rw [waits_none_has h5 q]; rfl
  | some y => rw [(h6 k y q).1]; rfl
theorem WaitsM.look1 {w : World} {b : Nat} {ws : Nat → Option (Nat × List Int)} (h : WaitsM w b ws) {k : Nat} (hk : k < 9223372036854775808) : (Instr.lookup 49 (.map (some b)) (.int .i64 (k : Int)) false).run Try.prog w = .ok (wvo (ws k)) w := by
  obtain ⟨D, ks, h1, h2, h3, h4, h5, h6⟩ := h
  obtain ⟨v, ps, hr, hv⟩ := h1.lookup key13 Try.underlying49 (zero_wait w) (zd := .held (.agg (wcells 0 (fun _ => false)))) (zp := []) rfl (pkey_of hk)
  rw [hr, waits_is h5 h6 hv]
/-- How many it waits for. -/
theorem WaitsM.len {w : World} {b : Nat} {ws : Nat → Option (Nat × List Int)} (h : WaitsM w b ws) : ∃ n : Nat, (∀ ty, (Builtin.len_ #[49] ty #[.map (some b)]).run Try.prog w = .ok (.int .i64 (n : Int)) w) ∧ (n = 0 ↔ ∀ k, ws k = none) := by
  obtain ⟨D, ks, h1, h2, h3, h4, h5, h6⟩ := h
  refine ⟨size D, fun ty => h1.len Try.underlying49 ty, fun e k => ?_, fun e => ?_⟩
  · cases q : ws k with
    | none => rfl
    | some y =>
      have := (h4 k).2 (by rw [q]; simp)
      rw [List.length_eq_zero_iff.1 (h3.symm.trans e)] at this
      cases this
  · rw [h3]
    cases ks with
    | nil => rfl
    | cons k l => exact absurd (e k) ((h4 k).1 (List.mem_cons_self ..))
/-- One more is waited for. -/
theorem WaitsM.put {w : World} {b : Nat} {ws : Nat → Option (Nat × List Int)} (h : WaitsM w b ws) {k : Nat} (hk : k < 9223372036854775808) (hn : ws k = none) (hr : ∀ m y, ws m = some y → m < 16) (y : Nat × List Int) :
    ∃ w', (Instr.mapUpdate 49 (.map (some b)) (.int .i64 (k : Int)) (wv y)).run Try.prog w = .ok () w' ∧ w.grownBy w' (some b) ∧ WaitsM w' b (fun m => if m = k then some y else ws m) := by
  obtain ⟨D, ks, h1, h2, h3, h4, h5, h6⟩ := h
  have hl : ks.length ≤ 16 := few13 16 ks h2 (fun x hx => by
    cases q : ws x with
    | none => exact absurd q ((h4 x).1 hx)
    | some z => exact hr x z q)
  obtain ⟨w', r1, r2, r3⟩ := h1.store key13 Try.underlying49 (by unfold maxLen; omega) (pkey_of hk) (d := .held (wv y)) (ps := []) rfl
  have ht := h1.tidy key13
  have hks : k ∉ ks := fun e => (h4 k).1 e hn
  refine ⟨w', r1, r3.grown, D.put (pkey k) (.held (wv y)), ks ++ [k], ownsMap_tight13 r2, ?_, ?_, fun m => ?_, fun x hx => ?_, fun m z hm => ?_⟩
  · rw [List.nodup_append]
    refine ⟨h2, by simp, fun x hx y hy e => ?_⟩
    simp at hy
    subst hy
    subst e
    exact hks hx
  · rw [size_put ht, waits_none_has h5 hn]
    simp [h3]
  · by_cases q : m = k
    · simp [q]
    · simp [q, h4 m]
  · by_cases q : x = (k : Int)
    · exact ⟨k, q, by simp⟩
    · rw [has_put_other (fun e => q (by unfold pkey at e; injection e with _ e))] at hx
      obtain ⟨m, e1, e2⟩ := h5 x hx
      refine ⟨m, e1, ?_⟩
      dsimp only
      rw [if_neg (fun e => q (by rw [e1, e]))]
      exact e2
  · by_cases q : m = k
    · subst q
      simp at hm
      subst hm
      exact ⟨has_put_same ht.isMap (pkey_lit m) _, fun z => atKey_put_same ht.isMap (pkey_lit m) _ z⟩
    · simp [q] at hm
      obtain ⟨x1, x2⟩ := h6 m z hm
      exact ⟨by rw [has_put_other (pkey_ne q)]; exact x1, fun z => by rw [atKey_put_other (pkey_ne q)]; exact x2 z⟩
/-- One is waited for no more. -/
theorem WaitsM.del {w : World} {b : Nat} {ws : Nat → Option (Nat × List Int)} (h : WaitsM w b ws) {k : Nat} (hk : k < 9223372036854775808) {y : Nat × List Int} (hn : ws k = some y) :
    ∃ w', (∀ ty, (Builtin.delete_ #[49, 3] ty #[.map (some b), .int .i64 (k : Int)]).run Try.prog w = .ok (.tuple #[]) w') ∧ w.grownBy w' (some b) ∧ WaitsM w' b (fun m => if m = k then none else ws m) := by
  obtain ⟨D, ks, h1, h2, h3, h4, h5, h6⟩ := h
  obtain ⟨w', r1, r2, r3⟩ := h1.drop key13 Try.underlying49 (pkey_of hk) 0
  have r1' : ∀ ty, (Builtin.delete_ #[49, 3] ty #[.map (some b), .int .i64 (k : Int)]).run Try.prog w = .ok (.tuple #[]) w' := fun ty => r1
  have ht := h1.tidy key13
  have hks : k ∈ ks := (h4 k).2 (by rw [hn]; simp)
  refine ⟨w', r1', r3.grown, D.del (pkey k), ks.erase k, ownsMap_tight13 r2, h2.erase _, ?_, fun m => ?_, fun x hx => ?_, fun m z hm => ?_⟩
  · have := size_del (k := pkey k) ht
    rw [(h6 k y hn).1, if_pos rfl] at this
    rw [List.length_erase_of_mem hks]
    omega
  · rw [h2.mem_erase_iff]
    by_cases q : m = k
    · simp [q]
    · simp [q, h4 m]
  · by_cases q : x = (k : Int)
    · subst q
      have := has_del_same (D := D) (k := pkey k)
      unfold pkey at this
      unfold pkey at hx
      rw [this] at hx
      cases hx
    · rw [has_del_other (fun e => q (by unfold pkey at e; injection e with _ e))] at hx
      obtain ⟨m, e1, e2⟩ := h5 x hx
      refine ⟨m, e1, ?_⟩
      dsimp only
      rw [if_neg (fun e => q (by rw [e1, e]))]
      exact e2
  · by_cases q : m = k
    · simp [q] at hm
    · simp [q] at hm
      obtain ⟨x1, x2⟩ := h6 m z hm
      exact ⟨by rw [has_del_other (pkey_ne q)]; exact x1, fun z => by rw [atKey_del_other (pkey_ne q)]; exact x2 z⟩
/-- Nobody is waited for any more. -/
theorem WaitsM.clear {w : World} {b : Nat} {ws : Nat → Option (Nat × List Int)} (h : WaitsM w b ws) :
    ∃ w', (∀ ty, (Builtin.clear_ #[49] ty #[.map (some b)]).run Try.prog w = .ok (.tuple #[]) w') ∧ w.grownBy w' (some b) ∧ WaitsM w' b (fun _ => none) := by
  have hlt := h.lt
  obtain ⟨D, ks, ⟨es, clock, hb, F, hs, hD⟩, h2⟩ := h
  refine ⟨{ w with heap := w.heap.setIfInBounds b (.map #[] clock) }, fun ty => by simp [Builtin.clear_, run_underlying Try.underlying49, MapKept.run_getObj_map hb, MapKept.run_setObj_map _ hb, Result.andThen], ⟨rfl, rfl, rfl, by simp, fun i hi hne => ?_⟩, .map [], [], ⟨#[], clock, ?_, ⟨by simp, MapKept.stamped_empty clock, by simp⟩, Nat.le_refl _, rfl⟩, List.nodup_nil, rfl, fun k => by simp, fun x e => (by cases e), fun k y e => (by cases e)⟩
  · show (w.heap.setIfInBounds b (.map #[] clock))[i]? = w.heap[i]?
    rw [Array.getElem?_setIfInBounds, if_neg (fun e => hne (by rw [e]))]
  · show (w.heap.setIfInBounds b (.map #[] clock))[b]? = _
    rw [Array.getElem?_setIfInBounds, if_pos rfl, if_pos hlt]

/-- The cells of the program's session. -/
def scells (st : SS) (m : Nat) : Array Value := #[.int .i64 (st.self : Int), .int .i64 (st.parties : Int), .int .i64 (st.patience : Int), .int .i64 (st.now : Int), .map (some m), .int .i64 (st.phase : Int), .int .i64 (st.why : Int)]
structure PSesV (w : World) (g m : Nat) (st : SS) (T : Nat → Prop) : Prop where
  heap : w.heap[g]? = some (.cells (scells st m) 51 (0, 0))
  foot : ∀ b, T b ↔ b = g ∨ b = m
  waits : WaitsM w m st.waits
  fine : st.Fine
  kinds : ∀ p x, st.waits p = some x → kindsOk x.2 = true
  over : st.phase ≠ 0 → ∀ p, st.waits p = none
/-- The program's session lies at g, knows st; T: the blocks that it may turn. -/
def PSes (w : World) (g : Nat) (st : SS) (T : Nat → Prop) : Prop := ∃ m, PSesV w g m st T
section
variable {w w' : World} {g m : Nat} {st st' : SS} {T C : Nat → Prop}
theorem PSesV.cell (h : PSesV w g m st T) (j : Nat) : w.cell? ⟨g, j, none⟩ = (scells st m)[j]? := cell_of_row w g j _ _ _ h.heap
theorem PSesV.frozen (h : PSesV w g m st T) (j : Nat) : w.frozen? ⟨g, j, none⟩ = false := frozen_of_row w g j _ _ h.heap
theorem PSesV.lt (h : PSesV w g m st T) : g < w.heap.size := (Array.getElem?_eq_some_iff.1 h.heap).1
theorem PSesV.apart (h : PSesV w g m st T) : m ≠ g := fun e => by
  subst e
  exact h.waits.notRow h.heap
theorem PSesV.old (h : PSesV w g m st T) : ∀ b, T b → b < w.heap.size := fun b e => by
  rcases (h.foot b).1 e with e | e
  · rw [e]; exact h.lt
  · rw [e]; exact h.waits.lt
theorem PSesV.other (h : PSesV w g m st T) (k : Only C w w') (hC : ∀ b, C b → ¬ T b) : PSesV w' g m st T :=
  ⟨(k.block g h.lt (fun e => hC g e ((h.foot g).2 (.inl rfl)))).trans h.heap, h.foot, h.waits.only k (fun e => hC m e ((h.foot m).2 (.inr rfl))), h.fine, h.kinds, h.over⟩
theorem PSesV.below (h : PSesV w g m st T) (hb : Below w.heap.size w w') : PSesV w' g m st T := h.other (Only.of_below (T := fun _ => False) hb) (fun _ e => e.elim)
/-- One cell is set anew. -/
theorem PSesV.put (h : PSesV w g m st T) (j : Nat) (x : Value) (hc : (scells st m).setIfInBounds j x = scells st' m) (hw : st'.waits = st.waits) (hf : st'.Fine) (ho : st'.phase ≠ 0 → ∀ p, st'.waits p = none) :
    PSesV (w.setCell ⟨g, j, none⟩ x) g m st' T ∧ Only T w (w.setCell ⟨g, j, none⟩ x) := by
  have hO : Only (fun b => b = g) w (w.setCell ⟨g, j, none⟩ x) := Only.of_grown (grown_set w g j x) (fun b e => by cases e; rfl)
  refine ⟨⟨by rw [heap_setCell_same w g j _ _ x h.heap, hc], h.foot, ?_, hf, by rw [hw]; exact h.kinds, ho⟩, hO.wide (fun b e => (h.foot b).2 (.inl e))⟩
  rw [hw]
  exact h.waits.only hO (fun e => h.apart e)
/-- Its map turns. -/
theorem PSesV.turn (h : PSesV w g m st T) (k : w.grownBy w' (some m)) (hw : WaitsM w' m st'.waits) (hc : scells st' m = scells st m) (hf : st'.Fine) (hk : ∀ p x, st'.waits p = some x → kindsOk x.2 = true) (ho : st'.phase ≠ 0 → ∀ p, st'.waits p = none) : PSesV w' g m st' T ∧ Only T w w' := by
  have hO : Only (fun b => b = m) w w' := Only.of_grown k (fun b e => by cases e; rfl)
  refine ⟨⟨?_, h.foot, hw, hf, hk, ho⟩, hO.wide (fun b e => (h.foot b).2 (.inr e))⟩
  rw [hc]
  exact (hO.block g h.lt (fun e => h.apart e.symm)).trans h.heap
end
theorem pses_kept : SesKept13 PSes where
  foot := fun ⟨_, h⟩ => ⟨h.fine, h.old⟩
  other := fun ⟨m, h⟩ k hC => ⟨m, h.other k hC⟩
end Go.Proofs.Ytbfjcfebbadkcaa

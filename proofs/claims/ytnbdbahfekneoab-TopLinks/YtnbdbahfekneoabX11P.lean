/-
  The program's end of a link in memory: rows of rows of bytes anywhere in their block, a map of them; how the end lies.
  The program's end of a link: how it lies in memory; contracts of New, Tick, Sure, Got, isMade, taken.
  The contract of slices.Delete of rows of bytes from the first one on; of confirm.
-/
import Derived.Test.YtnbdbahfekneoabR11G
import Derived.Maps.OwnSet
import Derived.ArgAppend
import Derived.Laws.IdiomCopy
import Derived.BigQuiet
import Derived.Shelf.SlicesE.Delete
namespace Go.Proofs.Ytnbdbahfekneoab
open Go.RowKit Go.Maps

/-- A row of rows of bytes, anywhere in its block. -/
def RowO (w : World) (v : Value) (Ls : List (List Int)) : Prop :=
  (v = .slice none 0 0 ∧ Ls = []) ∨ ∃ b o cap cur, v = .slice (some ⟨b, o, none⟩) Ls.length cap ∧ w.heap[b]? = some (.cells cur 32 (0, 0)) ∧ Ls.length ≤ cap ∧ cap ≤ maxLen ∧ o + cap ≤ cur.size ∧ ∀ i, i < Ls.length → ∃ p n c, cur[o + i]? = some (.slice p n c) ∧ BytG w p n c (Ls.getD i [])
theorem RowO.nil (w : World) : RowO w (.slice none 0 0) [] := .inl ⟨rfl, rfl⟩
theorem RowO.lt {w : World} {v : Value} {Ls : List (List Int)} (h : RowO w v Ls) : ∀ b, v.ownBlock = some b → b < w.heap.size := fun q e => by
  rcases h with ⟨rfl, rfl⟩ | ⟨b, o, cap, cur, rfl, hg, _⟩
  · simp [Value.ownBlock] at e
  · simp [Value.ownBlock] at e
    subst e
    exact (Array.getElem?_eq_some_iff.1 hg).1
theorem RowO.notB {w : World} {v : Value} {Ls : List (List Int)} (h : RowO w v Ls) : ∀ b, v.ownBlock = some b → ¬ IsB w b := fun q e => by
  rcases h with ⟨rfl, rfl⟩ | ⟨b, o, cap, cur, rfl, hg, _⟩
  · simp [Value.ownBlock] at e
  · simp [Value.ownBlock] at e
    subst e
    exact IsB.not hg (by decide)
theorem RowO.only {C : Nat → Prop} {w w' : World} {v : Value} {Ls : List (List Int)} (h : RowO w v Ls) (k : Only C w w') (hv : ∀ b, v.ownBlock = some b → ¬ C b) (hC : ∀ b, C b → ¬ IsB w b) : RowO w' v Ls := by
  rcases h with h | ⟨b, o, cap, cur, rfl, hg, h1, h2, h3, h4⟩
  · exact .inl h
  · refine .inr ⟨b, o, cap, cur, rfl, (k.block b (Array.getElem?_eq_some_iff.1 hg).1 (hv b rfl)).trans hg, h1, h2, h3, fun i hi => ?_⟩
    obtain ⟨p, n, c, e, hb⟩ := h4 i hi
    exact ⟨p, n, c, e, hb.only k hC⟩
theorem RowO.below {w w' : World} {v : Value} {Ls : List (List Int)} (h : RowO w v Ls) (hb : Below w.heap.size w w') : RowO w' v Ls := h.only (Only.of_below (T := fun _ => False) hb) (fun _ _ e => e) (fun _ e => e.elim)
theorem RowO.slice {w : World} {v : Value} {Ls : List (List Int)} (h : RowO w v Ls) : ∃ a c, v = .slice a Ls.length c ∧ Ls.length ≤ c ∧ c ≤ maxLen := by
  rcases h with ⟨rfl, rfl⟩ | ⟨b, o, cap, cur, rfl, _, h1, h2, _⟩
  · exact ⟨none, 0, rfl, Nat.le_refl _, Nat.zero_le _⟩
  · exact ⟨_, _, rfl, h1, h2⟩
theorem RowO.sl {w : World} {v : Value} {Ls : List (List Int)} (h : RowO w v Ls) : ∃ a n c, v = .slice a n c := by
  obtain ⟨a, c, e, _⟩ := h.slice
  exact ⟨a, _, c, e⟩
/-- One of its rows. -/
theorem RowO.at {w : World} {v : Value} {Ls : List (List Int)} (h : RowO w v Ls) {i : Nat} (hi : i < Ls.length) : ∃ b o cap p n c, v = .slice (some ⟨b, o, none⟩) Ls.length cap ∧ w.cell? ⟨b, o + i, none⟩ = some (.slice p n c) ∧ w.frozen? ⟨b, o + i, none⟩ = false ∧ BytG w p n c (Ls.getD i []) := by
  rcases h with ⟨rfl, rfl⟩ | ⟨b, o, cap, cur, rfl, hg, h1, h2, h3, h4⟩
  · simp at hi
  · obtain ⟨p, n, c, e, hb⟩ := h4 i hi
    exact ⟨b, o, cap, p, n, c, rfl, by rw [cell_of_row w b (o + i) cur _ _ hg]; exact e, frozen_of_row w b (o + i) cur _ hg, hb⟩
theorem getD_snoc {Ls : List (List Int)} {bs : List Int} {i : Nat} (h : i < Ls.length) : (Ls ++ [bs]).getD i [] = Ls.getD i [] := by unfold List.getD; rw [List.getElem?_append_left h]
theorem getD_last {Ls : List (List Int)} {bs : List Int} : (Ls ++ [bs]).getD Ls.length [] = bs := by simp [List.getD]
/-- One row more is appended. -/
theorem run_appO (w : World) (t ty : TypeId) (ht : Try.prog.underlying t = some (.slice 32)) {v : Value} {Ls : List (List Int)} (h : RowO w v Ls) {g1 : Nat} {p : Option Addr} {n c : Nat} {bs : List Int} (hu : w.cell? ⟨g1, 0, none⟩ = some (.slice p n c)) (hb : BytG w p n c bs) (hl : Ls.length ≤ 2147483648) :
    ∃ v' w', (Builtin.append_ #[t, t] ty #[v, .slice (some ⟨g1, 0, none⟩) 1 1]).run Try.prog w = .ok v' w' ∧ RowO w' v' (Ls ++ [bs]) ∧ w.grownBy w' v.ownBlock ∧ (v'.ownBlock = v.ownBlock ∨ v'.ownBlock = some w.heap.size) := by
  obtain ⟨i0, hi, hz0, hz1, hz2⟩ := info_parts Try.infoBL
  have hnews : ∀ j q, [Value.slice p n c][j]? = some q → w.cell? ((⟨g1, 0, none⟩ : Addr).add j) = some q := fun j q hj => by
    match j, hj with
    | 0, hj =>
      simp at hj
      subst hj
      rw [Addr.add_lit]
      exact hu
  have hone : ∀ q ∈ [Value.slice p n c], q.oneCell' = true := fun q hq => by
    simp at hq
    subst hq
    rfl
  -- the block that is new
  have fresh : ∀ (olds : List Value) (G : Nat), olds.length = Ls.length → Ls.length + 1 ≤ G → G ≤ maxLen → (∀ i, i < Ls.length → ∃ p n c, olds[i]? = some (.slice p n c) ∧ BytG w p n c (Ls.getD i [])) → ∀ row : Option Nat,
      RowO (w.drew.alloc (.cells (olds.toArray ++ [Value.slice p n c].toArray ++ Builtin.zeroCells (Value.slice none 0 0).cells (G - (Ls.length + 1))) 32)) (.slice (some ⟨w.heap.size, 0, none⟩) (Ls.length + 1) G) (Ls ++ [bs]) ∧ w.grownBy (w.drew.alloc (.cells (olds.toArray ++ [Value.slice p n c].toArray ++ Builtin.zeroCells (Value.slice none 0 0).cells (G - (Ls.length + 1))) 32)) row := by
    intro olds G ho hG hGm hold row
    have hB : Below w.heap.size w (w.drew.alloc (.cells (olds.toArray ++ [Value.slice p n c].toArray ++ Builtin.zeroCells (Value.slice none 0 0).cells (G - (Ls.length + 1))) 32)) := (below_drewN (Below.refl w.heap.size w) 1).alloc (Nat.le_refl _) _
    refine ⟨.inr ⟨w.heap.size, 0, G, _, by simp, heap_alloc_new w.drew _, by simp; omega, hGm, ?_, fun i hi' => ?_⟩, grown_of_below hB row⟩
    · rw [Array.size_append, Array.size_append, size_zeroCells]
      simp [Value.cells]
      omega
    · by_cases q : i < Ls.length
      · obtain ⟨p', n', c', e, hb'⟩ := hold i q
        refine ⟨p', n', c', ?_, by rw [getD_snoc q]; exact hb'.below hB⟩
        rw [Nat.zero_add, Array.getElem?_append_left (by simp; omega), Array.getElem?_append_left (by simp; omega)]
        simpa using e
      · obtain rfl : i = Ls.length := by simp at hi'; omega
        refine ⟨p, n, c, ?_, by rw [getD_last]; exact hb.below hB⟩
        rw [Nat.zero_add, Array.getElem?_append_left (by simp; omega), Array.getElem?_append_right (by simp; omega)]
        simp [ho]
  rcases h with ⟨rfl, rfl⟩ | ⟨b, o, cap, cur, rfl, hg, hlc, hcm, hsz, hc⟩
  · have hr := _root_.Go.run_append_nil (P := Try.prog) w t ty 32 i0 (.slice none 0 0) ht hi hz0 ⟨g1, 0, none⟩ 1 1 [.slice p n c] (by rw [hz1]; rfl) hnews (by decide) (by decide) (by rw [hz2]; decide)
    have hf := fresh [] (grownCap w 1 0 32) rfl (grownCap_ge w 1 0 _) (grownCap_le_maxLen w 1 0 _ (by unfold maxLen; omega)) (fun i hi => by simp at hi) none
    simp only [List.length_nil, Nat.zero_add, List.nil_append] at hf ⊢
    refine ⟨_, _, hr, ?_, ?_, .inr rfl⟩
    · simpa using hf.1
    · simpa [Value.ownBlock] using hf.2
  · by_cases hroom : Ls.length + 1 ≤ cap
    · have hr := _root_.Go.run_append_room_cells (P := Try.prog) w t ty 32 i0 ht hi b o Ls.length cap ⟨g1, 0, none⟩ 1 1 [.slice p n c] (by rw [hz1]; rfl) hnews hone hroom (fun j hj => by
        rw [cell_of_row w b _ cur _ _ hg, hz1]
        simp at hj
        subst hj
        rw [Array.getElem?_eq_getElem (by omega)]
        rfl) (fun j hj => frozen_of_row w b _ cur _ hg)
      rw [hz1, Nat.mul_one] at hr
      have hO : Only (fun q => q = b) w (w.setCell ⟨b, o + Ls.length, none⟩ (.slice p n c)) := Only.of_grown (grown_set w b (o + Ls.length) _) (fun q e => by cases e; rfl)
      have hnb : ∀ q, q = b → ¬ IsB w q := fun q e => by rw [e]; exact IsB.not hg (by decide)
      refine ⟨_, _, hr, .inr ⟨b, o, cap, _, by simp, heap_setCell_same w b (o + Ls.length) cur _ (.slice p n c) hg, by simpa using hroom, hcm, by simpa using hsz, fun i hi' => ?_⟩, grown_set w b (o + Ls.length) _, .inl rfl⟩
      by_cases q : i < Ls.length
      · obtain ⟨p', n', c', e, hb'⟩ := hc i q
        refine ⟨p', n', c', ?_, by rw [getD_snoc q]; exact hb'.only hO hnb⟩
        rw [Array.getElem?_setIfInBounds, if_neg (by omega)]
        exact e
      · obtain rfl : i = Ls.length := by simp at hi'; omega
        refine ⟨p, n, c, ?_, by rw [getD_last]; exact hb.only hO hnb⟩
        rw [Array.getElem?_setIfInBounds, if_pos rfl, if_pos (by omega)]
    · obtain ⟨olds, hol⟩ : ∃ olds, olds = (cur.toList.drop o).take Ls.length := ⟨_, rfl⟩
      have h1 : olds.length = Ls.length := by rw [hol]; simp; omega
      have h2 : ∀ j, j < Ls.length → olds[j]? = cur[o + j]? := fun j hj => by
        rw [hol, List.getElem?_take, if_pos hj, List.getElem?_drop]
        simp
      have hr := _root_.Go.run_append_grow (P := Try.prog) w t ty 32 i0 (.slice none 0 0) ht hi hz0 ⟨b, o, none⟩ Ls.length cap olds (by rw [hz1, h1, Nat.mul_one]) (fun j q hj => by
        have hjl : j < Ls.length := by rw [← h1]; exact (List.getElem?_eq_some_iff.1 hj).1
        rw [Addr.add_lit, cell_of_row w b (o + j) cur _ _ hg, ← h2 j hjl]
        exact hj) ⟨g1, 0, none⟩ 1 1 [.slice p n c] (by rw [hz1]; rfl) hnews (by omega) (by omega) (growslice_fits (by omega) (by rw [hz2]; omega))
      have hf := fresh olds (grownCap w (Ls.length + 1) cap 32) h1 (grownCap_ge w _ cap _) (grownCap_le_maxLen w _ cap _ (by unfold maxLen; omega)) (fun i hi => by
        obtain ⟨p', n', c', e, hb'⟩ := hc i hi
        exact ⟨p', n', c', by rw [h2 i hi]; exact e, hb'⟩) (some b)
      exact ⟨_, _, hr, hf.1, hf.2, .inr rfl⟩
theorem wp_appO (w : World) {o : Oper} {a : Act} {K : Act → World → Prop} {Q : Exit → Act → World → Prop} (s x : Operand) (t : TypeId)
    (ho : o.op = .call { callee := .builtin .append, args := #[s, x], argTypes := #[t, t] }) (ht : Try.prog.underlying t = some (.slice 32))
    (v : Value) (Ls : List (List Int)) (hs : a.eval s = v) (hown : RowO w v Ls) (g1 : Nat) (p : Option Addr) (n c : Nat) (bs : List Int) (hx : a.eval x = .slice (some ⟨g1, 0, none⟩) 1 1) (hu : w.cell? ⟨g1, 0, none⟩ = some (.slice p n c)) (hb : BytG w p n c bs) (hn : Ls.length ≤ 2147483648)
    (h : ∀ v' w', RowO w' v' (Ls ++ [bs]) → w.grownBy w' v.ownBlock → (v'.ownBlock = v.ownBlock ∨ v'.ownBlock = some w.heap.size) → K (a.put o.dst v') w') : Oper.wp Try.prog o a w K Q := by
  obtain ⟨v', w', hr, h2, h3, h4⟩ := run_appO w t o.type ht hown hu hb hn
  unfold Oper.wp
  simp [execOp, ho, resolve, invoke, builtin, hs, hx, hr, Result.andThen]
  exact h v' w' h2 h3 h4
theorem step_appO (w : World) {ops : Array Oper} {o : Oper} {a : Act} {K : Act → World → Prop} {Q : Exit → Act → World → Prop} {E : Prop} (hgd : o.guard = none) (s x : Operand) (t : TypeId)
    (ho : o.op = .call { callee := .builtin .append, args := #[s, x], argTypes := #[t, t] }) (ht : Try.prog.underlying t = some (.slice 32))
    (v : Value) (Ls : List (List Int)) (hs : a.eval s = v) (hown : RowO w v Ls) (g1 : Nat) (p : Option Addr) (n c : Nat) (bs : List Int) (hx : a.eval x = .slice (some ⟨g1, 0, none⟩) 1 1) (hu : w.cell? ⟨g1, 0, none⟩ = some (.slice p n c)) (hb : BytG w p n c bs) (hn : Ls.length ≤ 2147483648)
    (h : ∀ v' w', RowO w' v' (Ls ++ [bs]) → w.grownBy w' v.ownBlock → (v'.ownBlock = v.ownBlock ∨ v'.ownBlock = some w.heap.size) → K (a.put o.dst v') w') : if Region.wanted o (yielded ops a.tmps) = true then Oper.wp Try.prog o a w K Q else E := by
  rw [if_pos (by simp [Region.wanted, hgd])]
  exact wp_appO w s x t ho ht v Ls hs hown g1 p n c bs hx hu hb hn h
theorem wpList_appO (w : World) {ops : Array Oper} {rest : List Oper} {o : Oper} {a : Act} {Q : Exit → Act → World → Prop} (hgd : o.guard = none) (s x : Operand) (t : TypeId)
    (ho : o.op = .call { callee := .builtin .append, args := #[s, x], argTypes := #[t, t] }) (ht : Try.prog.underlying t = some (.slice 32))
    (v : Value) (Ls : List (List Int)) (hs : a.eval s = v) (hown : RowO w v Ls) (g1 : Nat) (p : Option Addr) (n c : Nat) (bs : List Int) (hx : a.eval x = .slice (some ⟨g1, 0, none⟩) 1 1) (hu : w.cell? ⟨g1, 0, none⟩ = some (.slice p n c)) (hb : BytG w p n c bs) (hn : Ls.length ≤ 2147483648)
    (h : ∀ v' w', RowO w' v' (Ls ++ [bs]) → w.grownBy w' v.ownBlock → (v'.ownBlock = v.ownBlock ∨ v'.ownBlock = some w.heap.size) → wpList Try.prog ops Q rest (a.put o.dst v') w') : wpList Try.prog ops Q (o :: rest) a w :=
  wpList_plain hgd fun _ hK => wp_appO w s x t ho ht v Ls hs hown g1 p n c bs hx hu hb hn fun v' w' h2 h3 h4 => hK _ _ (h v' w' h2 h3 h4)

/-- How an element of the map is read: as it stands. -/
def tokE (v : Value) : Option (DataW Value × List MemPlace) := some (.held v, [])
theorem keyI : Keyed Try.prog 3 := int_keyed Try.underlying3
def nkey (k : Nat) : Lit := .int .i64 (k : Int)
theorem nkey_of {k : Nat} (h : k < 9223372036854775808) : keyOf Try.prog 3 (.int .i64 (k : Int)) = some (nkey k) := keyOf_int_mk Try.underlying3 (WalkArith.wf_i64 (by omega))
theorem nkey_ne {k m : Nat} (h : k ≠ m) : nkey k ≠ nkey m := fun e => h (by unfold nkey at e; injection e with _ e; omega)
theorem nkey_lit (k : Nat) : WideAt.IsKeyLit (nkey k) := trivial
/-- Block b is a map of rows of bytes by their numbers. -/
def HeldM (w : World) (b : Nat) (hold : Nat → Option (List Int)) : Prop :=
  ∃ (D : DataW Value) (ks : List Nat), w.ownsMap Try.prog 3 tokE b (size D) D ∧ ks.Nodup ∧ size D = ks.length ∧ (∀ k, k ∈ ks ↔ hold k ≠ none) ∧ (∀ k, hold k = none → has D (nkey k) = false) ∧ ∀ k bs, hold k = some bs → has D (nkey k) = true ∧ ∃ p n c, (∀ z, D.atKey (nkey k) z = .held (.slice p n c)) ∧ BytG w p n c bs
theorem ownsMap_tight {w : World} {b n : Nat} {D : DataW Value} (h : w.ownsMap Try.prog 3 tokE b n D) : w.ownsMap Try.prog 3 tokE b (size D) D := by
  obtain ⟨es, clock, hb, F, hs, rfl⟩ := h
  exact ⟨es, clock, hb, F, by simp [Maps.size, length_sorted], rfl⟩
theorem HeldM.new (w : World) : HeldM (w.alloc (.map #[] 0)) w.heap.size (fun _ => none) :=
  ⟨.map [], [], World.ownsMap_made w _ _ _, List.nodup_nil, rfl, fun k => by simp, fun k _ => rfl, fun k bs e => by cases e⟩
theorem HeldM.lt {w : World} {b : Nat} {hold : Nat → Option (List Int)} (h : HeldM w b hold) : b < w.heap.size := by
  obtain ⟨D, ks, h1, _⟩ := h
  exact h1.lt
theorem HeldM.notB {w : World} {b : Nat} {hold : Nat → Option (List Int)} (h : HeldM w b hold) : ¬ IsB w b := by
  obtain ⟨D, ks, ⟨es, clock, hb, _⟩, _⟩ := h
  rintro ⟨cur, e⟩
  rw [hb] at e
  cases e
theorem HeldM.only {C : Nat → Prop} {w w' : World} {b : Nat} {hold : Nat → Option (List Int)} (h : HeldM w b hold) (k : Only C w w') (hv : ¬ C b) (hC : ∀ b, C b → ¬ IsB w b) : HeldM w' b hold := by
  have hlt := h.lt
  obtain ⟨D, ks, ⟨es, clock, hb, F, hs, hD⟩, h2, h3, h4, h5, h6⟩ := h
  refine ⟨D, ks, ⟨es, clock, (k.block b hlt hv).trans hb, F, hs, hD⟩, h2, h3, h4, h5, fun q bs e => ?_⟩
  obtain ⟨x1, p, n, c, x2, x3⟩ := h6 q bs e
  exact ⟨x1, p, n, c, x2, x3.only k hC⟩
/-- What a look tells. -/
theorem HeldM.look {w : World} {b : Nat} {hold : Nat → Option (List Int)} (h : HeldM w b hold) {k : Nat} (hk : k < 9223372036854775808) : ∃ v, (Instr.lookup 44 (.map (some b)) (.int .i64 (k : Int)) true).run Try.prog w = .ok (.tuple #[v, .bool (hold k).isSome]) w ∧ ((hold k = none ∧ v = .slice none 0 0) ∨ ∃ bs p n c, hold k = some bs ∧ v = .slice p n c ∧ BytG w p n c bs) := by
  obtain ⟨D, ks, h1, h2, h3, h4, h5, h6⟩ := h
  have hz : (zeroValue 32).run Try.prog w = .ok (.slice none 0 0) w := by kernel_rfl
  obtain ⟨v, ps, hr, hv⟩ := h1.look_ok keyI Try.underlying44 hz (zd := .held (.slice none 0 0)) (zp := []) rfl (nkey_of hk)
  have hv' : D.atKey (nkey k) (.held (.slice none 0 0)) = .held v := by
    unfold tokE at hv
    have := congrArg (Option.map Prod.fst) hv
    simpa using this.symm
  refine ⟨v, ?_, ?_⟩
  · rw [hr]
    cases q : hold k with
    | none => rw [h5 k q]; rfl
    | some bs => rw [(h6 k bs q).1]; rfl
  · cases q : hold k with
    | none =>
      rw [atKey_of_not_has (h5 k q)] at hv'
      exact .inl ⟨rfl, (DataW.held.inj hv').symm⟩
    | some bs =>
      obtain ⟨x1, p, n, c, x2, x3⟩ := h6 k bs q
      rw [x2] at hv'
      exact .inr ⟨bs, p, n, c, rfl, (DataW.held.inj hv').symm, x3⟩
/-- One more is held. -/
theorem HeldM.put {w : World} {b : Nat} {hold : Nat → Option (List Int)} (h : HeldM w b hold) {k : Nat} (hk : k < 9223372036854775808) (hn : hold k = none) {a : Nat} (hr : ∀ m bs, hold m = some bs → a ≤ m ∧ m < a + 16) {p : Option Addr} {n c : Nat} {bs : List Int} (hb : BytG w p n c bs) :
    ∃ w', (Instr.mapUpdate 44 (.map (some b)) (.int .i64 (k : Int)) (.slice p n c)).run Try.prog w = .ok () w' ∧ w.grownBy w' (some b) ∧ HeldM w' b (fun m => if m = k then some bs else hold m) := by
  have hnb := h.notB
  obtain ⟨D, ks, h1, h2, h3, h4, h5, h6⟩ := h
  have hl : ks.length ≤ 16 := few_keys 16 a ks h2 (fun x hx => by
    cases q : hold x with
    | none => exact absurd q ((h4 x).1 hx)
    | some bs => exact hr x bs q)
  obtain ⟨w', r1, r2, r3⟩ := h1.store keyI Try.underlying44 (by unfold maxLen; omega) (nkey_of hk) (d := .held (.slice p n c)) (ps := []) rfl
  have hO : Only (fun q => q = b) w w' := Only.of_grown r3.grown (fun q e => by cases e; rfl)
  have hnb' : ∀ q, q = b → ¬ IsB w q := fun q e => by rw [e]; exact hnb
  have ht := h1.tidy keyI
  have hks : k ∉ ks := fun e => (h4 k).1 e hn
  refine ⟨w', r1, r3.grown, D.put (nkey k) (.held (.slice p n c)), ks ++ [k], ownsMap_tight r2, ?_, ?_, fun m => ?_, fun m hm => ?_, fun m cs hm => ?_⟩
  · rw [List.nodup_append]
    refine ⟨h2, by simp, fun x hx y hy e => ?_⟩
    simp at hy
    subst hy
    subst e
    exact hks hx
  · rw [size_put ht, h5 k hn]
    simp [h3]
  · by_cases q : m = k
    · simp [q]
    · simp [q, h4 m]
  · by_cases q : m = k
    · simp [q] at hm
    · simp [q] at hm
      rw [has_put_other (nkey_ne q)]
      exact h5 m hm
  · by_cases q : m = k
    · subst q
      simp at hm
      subst hm
      exact ⟨has_put_same ht.isMap (nkey_lit m) _, p, n, c, fun z => atKey_put_same ht.isMap (nkey_lit m) _ z, hb.only hO hnb'⟩
    · simp [q] at hm
      obtain ⟨x1, p', n', c', x2, x3⟩ := h6 m cs hm
      exact ⟨by rw [has_put_other (nkey_ne q)]; exact x1, p', n', c', fun z => by rw [atKey_put_other (nkey_ne q)]; exact x2 z, x3.only hO hnb'⟩
/-- One is held no more. -/
theorem HeldM.del {w : World} {b : Nat} {hold : Nat → Option (List Int)} (h : HeldM w b hold) {k : Nat} (hk : k < 9223372036854775808) {bs : List Int} (hn : hold k = some bs) :
    ∃ w', (∀ ty, (Builtin.delete_ #[44, 3] ty #[.map (some b), .int .i64 (k : Int)]).run Try.prog w = .ok (.tuple #[]) w') ∧ w.grownBy w' (some b) ∧ HeldM w' b (fun m => if m = k then none else hold m) := by
  have hnb := h.notB
  obtain ⟨D, ks, h1, h2, h3, h4, h5, h6⟩ := h
  obtain ⟨w', r1, r2, r3⟩ := h1.drop keyI Try.underlying44 (nkey_of hk) 0
  have r1' : ∀ ty, (Builtin.delete_ #[44, 3] ty #[.map (some b), .int .i64 (k : Int)]).run Try.prog w = .ok (.tuple #[]) w' := fun ty => r1
  have hO : Only (fun q => q = b) w w' := Only.of_grown r3.grown (fun q e => by cases e; rfl)
  have hnb' : ∀ q, q = b → ¬ IsB w q := fun q e => by rw [e]; exact hnb
  have ht := h1.tidy keyI
  have hks : k ∈ ks := (h4 k).2 (by rw [hn]; simp)
  refine ⟨w', r1', r3.grown, D.del (nkey k), ks.erase k, ownsMap_tight r2, h2.erase _, ?_, fun m => ?_, fun m hm => ?_, fun m cs hm => ?_⟩
  · have := size_del (k := nkey k) ht
    rw [(h6 k bs hn).1, if_pos rfl] at this
    rw [List.length_erase_of_mem hks]
    omega
  · rw [h2.mem_erase_iff]
    by_cases q : m = k
    · simp [q]
    · simp [q, h4 m]
  · by_cases q : m = k
    · subst q
      exact has_del_same
    · simp [q] at hm
      rw [has_del_other (nkey_ne q)]
      exact h5 m hm
  · by_cases q : m = k
    · simp [q] at hm
    · simp [q] at hm
      obtain ⟨x1, p', n', c', x2, x3⟩ := h6 m cs hm
      exact ⟨by rw [has_del_other (nkey_ne q)]; exact x1, p', n', c', fun z => by rw [atKey_del_other (nkey_ne q)]; exact x2 z, x3.only hO hnb'⟩
end Go.Proofs.Ytnbdbahfekneoab

namespace Go.Proofs.Ytnbdbahfekneoab
open Go.RowKit

/-- The cells of the program's end. -/
def pcells (st : LS) (v1 : Value) (bm : Nat) (v6 : Value) : Array Value := #[.int .i64 st.win, v1, .int .i64 st.sure, .int .i64 st.sent, .int .i64 st.all.length, .map (some bm), v6, .bool st.owes, .bool st.tick]
structure PEndV (w : World) (g : Nat) (st : LS) (v1 : Value) (bm : Nat) (v6 : Value) (T : Nat → Prop) : Prop where
  heap : w.heap[g]? = some (.cells (pcells st v1 bm v6) 46 (0, 0))
  foot : ∀ b, T b ↔ b = g ∨ b = bm ∨ v1.ownBlock = some b ∨ v6.ownBlock = some b
  apart : bm ≠ g ∧ (v1.ownBlock ≠ some g ∧ v1.ownBlock ≠ some bm) ∧ (v6.ownBlock ≠ some g ∧ v6.ownBlock ≠ some bm) ∧ ∀ b, v1.ownBlock = some b → v6.ownBlock ≠ some b
  queue : RowO w v1 (st.took.drop st.sure)
  come : RowO w v6 (st.all.drop st.told)
  held : HeldM w bm st.hold
  fine : st.Loose
  few : st.took.length ≤ 1073741824 ∧ st.all.length ≤ 1073741824
  short : ∀ L, L ∈ st.took → L.length ≤ 1048576
/-- The program's end lies at g, knows st; T: the blocks that it may turn. -/
def PEnd (w : World) (g : Nat) (st : LS) (T : Nat → Prop) : Prop := st.Fine ∧ ∃ v1 bm v6, PEndV w g st v1 bm v6 T
section
variable {w w' : World} {g : Nat} {st st' : LS} {v1 : Value} {bm : Nat} {v6 : Value} {T C : Nat → Prop}
theorem PEndV.cell (h : PEndV w g st v1 bm v6 T) (j : Nat) : w.cell? ⟨g, j, none⟩ = (pcells st v1 bm v6)[j]? := cell_of_row w g j _ _ _ h.heap
theorem PEndV.frozen (h : PEndV w g st v1 bm v6 T) (j : Nat) : w.frozen? ⟨g, j, none⟩ = false := frozen_of_row w g j _ _ h.heap
theorem PEndV.lt (h : PEndV w g st v1 bm v6 T) : g < w.heap.size := (Array.getElem?_eq_some_iff.1 h.heap).1
theorem PEndV.old (h : PEndV w g st v1 bm v6 T) : ∀ b, T b → b < w.heap.size := fun b e => by
  rcases (h.foot b).1 e with e | e | e | e
  · rw [e]; exact h.lt
  · rw [e]; exact h.held.lt
  · exact h.queue.lt b e
  · exact h.come.lt b e
theorem PEndV.notB (h : PEndV w g st v1 bm v6 T) : ∀ b, T b → ¬ IsB w b := fun b e => by
  rcases (h.foot b).1 e with e | e | e | e
  · rw [e]; exact IsB.not h.heap (by decide)
  · rw [e]; exact h.held.notB
  · exact h.queue.notB b e
  · exact h.come.notB b e
theorem PEndV.other (h : PEndV w g st v1 bm v6 T) (k : Only C w w') (hC : ∀ b, C b → ¬ T b) (hB : ∀ b, C b → ¬ IsB w b) : PEndV w' g st v1 bm v6 T := by
  have hg : w'.heap[g]? = w.heap[g]? := k.block g h.lt (fun e => hC g e ((h.foot g).2 (.inl rfl)))
  exact ⟨hg.trans h.heap, h.foot, h.apart, h.queue.only k (fun b e q => hC b q ((h.foot b).2 (.inr (.inr (.inl e))))) hB, h.come.only k (fun b e q => hC b q ((h.foot b).2 (.inr (.inr (.inr e))))) hB, h.held.only k (fun q => hC bm q ((h.foot bm).2 (.inr (.inl rfl)))) hB, h.fine, h.few, h.short⟩
theorem PEndV.below (h : PEndV w g st v1 bm v6 T) (hb : Below w.heap.size w w') : PEndV w' g st v1 bm v6 T := h.other (Only.of_below (T := fun _ => False) hb) (fun _ e => e.elim) (fun _ e => e.elim)
theorem PEndV.draw (h : PEndV w g st v1 bm v6 T) (j : Nat) : PEndV (w.drewN j) g st v1 bm v6 T ∧ Only T w (w.drewN j) := by
  have o : ∀ C : Nat → Prop, Only C w (w.drewN j) := fun C => ⟨rfl, rfl, rfl, Nat.le_refl _, fun b _ _ => rfl⟩
  exact ⟨h.other (o (fun _ => False)) (fun _ e => e.elim) (fun _ e => e.elim), o T⟩
/-- Of the old blocks only the end's own has turned. -/
theorem PEndV.again (h : PEndV w g st v1 bm v6 T) (o : Only (fun b => b = g) w w') (hh : w'.heap[g]? = some (.cells (pcells st' v1 bm v6) 46 (0, 0))) (h1 : st'.took.drop st'.sure = st.took.drop st.sure) (h4 : st'.all.drop st'.told = st.all.drop st.told) (h6 : st'.hold = st.hold) (hf : st'.Loose) (hw : st'.took.length ≤ 1073741824 ∧ st'.all.length ≤ 1073741824) (hs : ∀ L, L ∈ st'.took → L.length ≤ 1048576) : PEndV w' g st' v1 bm v6 T := by
  have hn : ∀ b, b = g → ¬ IsB w b := fun b e => h.notB b ((h.foot b).2 (.inl e))
  refine ⟨hh, h.foot, h.apart, ?_, ?_, ?_, hf, hw, hs⟩
  · rw [h1]
    exact h.queue.only o (fun b e q => h.apart.2.1.1 (by rw [e, q])) hn
  · rw [h4]
    exact h.come.only o (fun b e q => h.apart.2.2.1.1 (by rw [e, q])) hn
  · rw [h6]
    exact h.held.only o (fun e => h.apart.1 e) hn
/-- One cell that holds no row is set anew. -/
theorem PEndV.put (h : PEndV w g st v1 bm v6 T) (j : Nat) (x : Value) (hc : (pcells st v1 bm v6).setIfInBounds j x = pcells st' v1 bm v6) (h1 : st'.took = st.took) (h2 : st'.sure = st.sure) (h4 : st'.all = st.all) (h5 : st'.told = st.told) (h6 : st'.hold = st.hold) (hf : st'.Loose) :
    PEndV (w.setCell ⟨g, j, none⟩ x) g st' v1 bm v6 T ∧ Only T w (w.setCell ⟨g, j, none⟩ x) := by
  have hO : Only (fun b => b = g) w (w.setCell ⟨g, j, none⟩ x) := Only.of_grown (grown_set w g j x) (fun b e => by cases e; rfl)
  have hT : ∀ b, b = g → T b := fun b e => (h.foot b).2 (.inl e)
  exact ⟨h.again hO (by rw [heap_setCell_same w g j _ _ x h.heap, hc]) (by rw [h1, h2]) (by rw [h4, h5]) h6 hf (by rw [h1, h4]; exact h.few) (by rw [h1]; exact h.short), hO.wide hT⟩
end
theorem pend_kept : EndKept11 PEnd where
  foot := fun ⟨hF, _, _, _, h⟩ => ⟨hF, h.old, h.notB⟩
  other := fun ⟨hF, v1, bm, v6, h⟩ k hC hB => ⟨hF, v1, bm, v6, h.other k hC hB⟩

set_option maxHeartbeats 400000 in
theorem p11made (g : Nat) (n : Nat) (w : World) (h0 : 1 ≤ n) (c0 : w.cell? ⟨g, 0, none⟩ = some (.int .i64 n)) : Calls Try.prog 19 #[.pointer (some ⟨g, 0, none⟩)] w fun e w' => e = .returned (.bool true) ∧ w' = w := by
  have h0d : (0 : Int) < (n : Int) := by omega
  have h0e : decide (0 < n) = true := decide_eq_true (by omega)
  go_enter Try.func19, Try.ntmps19
  go_wp2
  go_ret
  exact ⟨rfl, rfl⟩
theorem p11made_any {g : Nat} {st : LS} {v1 : Value} {bm : Nat} {v6 : Value} {T : Nat → Prop} {w : World} (h : PEndV w g st v1 bm v6 T) : Calls Try.prog 19 #[.pointer (some ⟨g, 0, none⟩)] w fun e w' => e = .returned (.bool true) ∧ w' = w := p11made g st.win w h.fine.w16.1 (h.cell 0)

set_option maxHeartbeats 800000 in
theorem p11taken_any {g : Nat} {st : LS} {v1 : Value} {bm : Nat} {v6 : Value} {T : Nat → Prop} {w : World} (h : PEndV w g st v1 bm v6 T) : Calls Try.prog 20 #[.pointer (some ⟨g, 0, none⟩)] w fun e w' => e = .returned (.int .i64 (st.took.length : Int)) ∧ ∃ k, w' = w.drewN k := by
  have c2 : w.cell? ⟨g, 2, none⟩ = some (.int .i64 st.sure) := h.cell 2
  have c1 : w.cell? ⟨g, 1, none⟩ = some v1 := h.cell 1
  obtain ⟨a1, k1, e1, hk1, hk2⟩ := h.queue.slice
  have s1 := h.fine.sure
  have s2 := h.fine.sent
  have s3 := h.few.1
  rw [List.length_drop] at e1
  obtain ⟨n, hn⟩ : ∃ n, n = st.took.length := ⟨_, rfl⟩
  obtain ⟨s, hs⟩ : ∃ s, s = st.sure := ⟨_, rfl⟩
  rw [← hn] at s2 s3 e1 ⊢
  rw [← hs] at c2 s1 e1
  rw [e1] at c1
  obtain ⟨q, hq⟩ : ∃ q, q = n - s := ⟨_, rfl⟩
  rw [← hq] at c1
  have hsum : (s : Int) + (q : Int) = (n : Int) := by omega
  have HS : Hid ((s : Int) + (q : Int) = (n : Int)) := hsum
  have hw : IntKind.i64.wrap ((s : Int) + (q : Int)) = (s : Int) + (q : Int) := by simp [IntKind.wrap, IntKind.signed, IntKind.bits]; omega
  clear h hn hs e1 hq hk1 hsum
  go_enter Try.func20, Try.ntmps20
  go_wp2_with fail
  go_quiet (fail)
  go_wp2
  go_ret
  exact ⟨ret_int HS.out, _, rfl⟩

set_option maxHeartbeats 800000 in
theorem p11tick_any (g : Nat) (st : LS) (T : Nat → Prop) (w : World) (h : PEnd w g st T) : Calls Try.prog 7 #[.pointer (some ⟨g, 0, none⟩)] w fun e w' => e = .returned (.tuple #[]) ∧ EndT11 PEnd w g st.ticked T w' := by
  obtain ⟨hF, v1, bm, v6, h⟩ := h
  have HM := (show Hid _ from p11made_any h)
  have c8 : w.cell? ⟨g, 8, none⟩ = some (.bool st.tick) := h.cell 8
  have f8 := h.frozen 8
  obtain ⟨k1, k2⟩ := h.put (st' := st.ticked) 8 (.bool true) rfl rfl rfl rfl rfl rfl (LS.tick_fine hF).loose
  have HE : Hid (EndT11 PEnd w g st.ticked T (w.setCell ⟨g, 8, none⟩ (.bool true))) := ⟨T, ⟨LS.tick_fine hF, v1, bm, v6, k1⟩, k2, fun b e => .inl e⟩
  clear k1 k2 h
  go_enter Try.func7, Try.ntmps7
  go_wp2_with fail
  refine Calls.mono HM.out ?_
  rintro e w1 ⟨rfl, rfl⟩
  go_wp2
  go_end0
  exact ⟨rfl, HE.out⟩
set_option maxHeartbeats 800000 in
theorem p11new_any (n : Int) (w : World) : Calls Try.prog 4 #[.int .i64 n] w fun e w' => NewT11 PEnd n w e w' := by
  by_cases h1 : n < 1
  · have h1d : decide (n < 1) = true := decide_eq_true h1
    have HW : Hid (winB n = false) := by show _ = _; unfold winB; rw [decide_eq_false (by omega), Bool.false_and]
    go_enter Try.func4, Try.ntmps4
    go_wp2
    go_ret2
    exact .inl ⟨HW.out, rfl, Below.refl _ _⟩
  have h1d : decide (n < 1) = false := decide_eq_false h1
  by_cases h2 : 16 < n
  · have h2d : decide (16 < n) = true := decide_eq_true h2
    have HW : Hid (winB n = false) := by show _ = _; unfold winB; rw [decide_eq_false (show ¬ n ≤ 16 by omega), Bool.and_false]
    go_enter Try.func4, Try.ntmps4
    go_wp2
    go_ret2
    exact .inl ⟨HW.out, rfl, Below.refl _ _⟩
  have h2d : decide (16 < n) = false := decide_eq_false h2
  obtain ⟨N, rfl⟩ : ∃ N : Nat, n = (N : Int) := ⟨n.toNat, by omega⟩
  have HW : Hid (winB N = true) := by show _ = _; unfold winB; rw [decide_eq_true (by omega), decide_eq_true (by omega)]; rfl
  have hB := bthen (balloc w (.map #[] 0)) (balloc (w.alloc (.map #[] 0)) (.cells #[.int .i64 N, .slice none 0 0, .int .i64 0, .int .i64 0, .int .i64 0, .map (some w.heap.size), .slice none 0 0, .bool false, .bool false] 46))
  have HE : Hid (PEnd ((w.alloc (.map #[] 0)).alloc (.cells #[.int .i64 N, .slice none 0 0, .int .i64 0, .int .i64 0, .int .i64 0, .map (some w.heap.size), .slice none 0 0, .bool false, .bool false] 46)) (w.heap.size + 1) (LS.new N) (fun b => b = w.heap.size + 1 ∨ b = w.heap.size)) := by
    refine ⟨LS.new_fine (by omega), .slice none 0 0, w.heap.size, .slice none 0 0, ⟨?_, fun b => ⟨fun e => ?_, fun e => ?_⟩, ⟨by omega, ⟨by simp [Value.ownBlock], by simp [Value.ownBlock]⟩, ⟨by simp [Value.ownBlock], by simp [Value.ownBlock]⟩, fun b e => by simp [Value.ownBlock] at e⟩, RowO.nil _, RowO.nil _, ?_, (LS.new_fine (by omega)).loose, ⟨Nat.zero_le _, Nat.zero_le _⟩, fun _ e => (by cases e)⟩⟩
    · have := heap_alloc_new (w.alloc (.map #[] 0)) (.cells #[.int .i64 N, .slice none 0 0, .int .i64 0, .int .i64 0, .int .i64 0, .map (some w.heap.size), .slice none 0 0, .bool false, .bool false] 46)
      rw [World.size_alloc] at this
      exact this
    · rcases e with e | e
      · exact .inl e
      · exact .inr (.inl e)
    · rcases e with e | e | e | e
      · exact .inl e
      · exact .inr e
      · simp [Value.ownBlock] at e
      · simp [Value.ownBlock] at e
    · exact (HeldM.new w).only (Only.of_below (T := fun _ => False) (balloc _ _)) (fun e => e) (fun _ e => e.elim)
  have hmm := @run_makeMap Try.prog
  go_enter Try.func4, Try.ntmps4
  go_wp2
  go_ret2
  exact .inr ⟨HW.out, _, _, rfl, HE.out, hB, fun b e => by rcases e with e | e <;> omega⟩
end Go.Proofs.Ytnbdbahfekneoab

namespace Go.Proofs.Ytnbdbahfekneoab
open Go.RowKit Go.Shelf Go.Sort

def del_ren : Go.Shelf.Ren := ⟨fun | 45 => 47 | n => n, fun | 22 => 36 | 23 => 32 | n => n, fun n => n⟩
theorem del_lays : SlLaysE.n45 Try.prog del_ren :=
  { mixed := by kernel_rfl, f45 := ⟨Try.f47.name, by kernel_rfl, Try.func47.trans (by kernel_rfl)⟩,
    t0 := by kernel_rfl, a0 := fun _ => by kernel_rfl, z0 := fun _ => by kernel_rfl, v0 := fun _ => by kernel_rfl,
    t3 := by kernel_rfl, a3 := fun _ => by kernel_rfl, z3 := fun _ => by kernel_rfl, v3 := fun _ => by kernel_rfl,
    t4 := by kernel_rfl, a4 := fun _ => by kernel_rfl, z4 := fun _ => by kernel_rfl, v4 := fun _ => by kernel_rfl,
    t22 := by kernel_rfl, a22 := fun _ => by kernel_rfl, z22 := fun _ => by kernel_rfl, v22 := fun _ => by kernel_rfl,
    a23 := fun _ => by kernel_rfl, z23 := fun _ => by kernel_rfl }
/-- A row of bytes as it stands in a cell. -/
def sl3 (x : Option Addr × Nat × Nat) : Value := .slice x.1 x.2.1 x.2.2
theorem putRow_heap {α : Type} [Inhabited α] (enc : α → Value) (w : World) (blk off : Nat) (d : Array α) {cur : Array Value} {t : TypeId} {m : Nat × Nat} (h : w.heap[blk]? = some (.cells cur t m)) : (putRow enc w blk off d).heap[blk]? = some (.cells (putCells enc off d cur) t m) := by
  unfold putRow mapBlock
  simp only [Array.getElem?_modify, if_true, h]
  rfl
theorem putRow_other {α : Type} [Inhabited α] (enc : α → Value) (w : World) (blk off : Nat) (d : Array α) {k : Nat} (h : k ≠ blk) : (putRow enc w blk off d).heap[k]? = w.heap[k]? := by
  unfold putRow mapBlock
  simp [Array.getElem?_modify, Ne.symm h]
/-- The first k rows are struck. -/
theorem del_any {w : World} {v : Value} {Ls : List (List Int)} (h : RowO w v Ls) {k : Nat} (h0 : 0 < k) (hk : k ≤ Ls.length) :
    Calls Try.prog 47 #[v, .int .i64 0, .int .i64 (k : Int)] w fun e w' => ∃ v', e = .returned v' ∧ RowO w' v' (Ls.drop k) ∧ w.grownBy w' v.ownBlock ∧ v'.ownBlock = v.ownBlock := by
  rcases h with ⟨rfl, rfl⟩ | ⟨b, o, cap, cur, rfl, hg, hlc, hcm, hsz, hc⟩
  · simp at hk
    omega
  obtain ⟨i0, hi, hz0, hz1, hz2⟩ := info_parts Try.infoBL
  obtain ⟨us, hul, hu⟩ : ∃ us : List (Option Addr × Nat × Nat), us.length = Ls.length ∧ ∀ i, i < Ls.length → ∃ x, us[i]? = some x ∧ cur[o + i]? = some (sl3 x) ∧ BytG w x.1 x.2.1 x.2.2 (Ls.getD i []) := by
    have : ∀ n, n ≤ Ls.length → ∃ us : List (Option Addr × Nat × Nat), us.length = n ∧ ∀ i, i < n → ∃ x, us[i]? = some x ∧ cur[o + i]? = some (sl3 x) ∧ BytG w x.1 x.2.1 x.2.2 (Ls.getD i []) := by
      intro n
      induction n with
      | zero => exact fun _ => ⟨[], rfl, fun i hi => absurd hi (by omega)⟩
      | succ n ih =>
        intro hn
        obtain ⟨us, h1, h2⟩ := ih (by omega)
        obtain ⟨p, m, c, e, hb⟩ := hc n (by omega)
        refine ⟨us ++ [(p, m, c)], by simp [h1], fun i hi => ?_⟩
        by_cases q : i < n
        · obtain ⟨x, x1, x2, x3⟩ := h2 i q
          exact ⟨x, by rw [List.getElem?_append_left (by omega)]; exact x1, x2, x3⟩
        · obtain rfl : i = n := by omega
          exact ⟨(p, m, c), by rw [List.getElem?_append_right (by omega), h1]; simp, e, hb⟩
    exact this Ls.length (Nat.le_refl _)
  have hH : Holds sl3 w b o us.toArray := fun j hj => by
    have hj' : j < Ls.length := by simpa [hul] using hj
    obtain ⟨x, x1, x2, x3⟩ := hu j hj'
    have e : us.toArray[j]! = x := by
      rw [getElem!_pos us.toArray j hj]
      have := (List.getElem?_eq_some_iff.1 x1).2
      simpa using this
    exact ⟨by rw [cell_of_row w b (o + j) cur _ _ hg, x2, e], frozen_of_row w b (o + j) cur _ hg⟩
  have hL := AnyE.slices_Delete del_lays sl3 (fun _ => rfl) (none, 0, 0) (fun w => by kernel_rfl) i0 hi hz1 b o cap 0 k us.toArray w hH (by simpa [hul] using hlc) hcm (Nat.zero_le _) (by simpa [hul] using hk)
  have e1 : us.toArray.size = Ls.length := by simp [hul]
  rw [e1] at hL
  refine Calls.mono hL ?_
  rintro e w' ⟨rfl, q, rfl⟩
  have hgr : w.grownBy (putRow sl3 (Sort.ahead w q) b o (us.toArray.toList.take 0 ++ us.toArray.toList.drop k ++ List.replicate (k - 0) (none, 0, 0)).toArray) (some b) := ⟨rfl, rfl, rfl, by simp, fun i _ hne => putRow_other _ _ _ _ _ (fun e => hne (by rw [e]))⟩
  have hO : Only (fun x => x = b) w (putRow sl3 (Sort.ahead w q) b o (us.toArray.toList.take 0 ++ us.toArray.toList.drop k ++ List.replicate (k - 0) (none, 0, 0)).toArray) := Only.of_grown hgr (fun x e => by cases e; rfl)
  have hnb : ∀ x, x = b → ¬ IsB w x := fun x e => by rw [e]; exact IsB.not hg (by decide)
  refine ⟨_, rfl, .inr ⟨b, o, cap, _, by simp, putRow_heap sl3 (Sort.ahead w q) b o _ hg, by simp; omega, hcm, by simpa [putCells] using hsz, fun i hi => ?_⟩, hgr, rfl⟩
  have hi' : k + i < Ls.length := by simp at hi; omega
  obtain ⟨x, x1, x2, x3⟩ := hu (k + i) hi'
  refine ⟨x.1, x.2.1, x.2.2, ?_, ?_⟩
  · have hos : o + i < cur.size := by omega
    simp only [putCells, Array.getElem?_mapIdx, Array.getElem?_eq_getElem hos, Option.map_some]
    rw [if_pos ⟨by omega, by simp; omega⟩]
    have hx : (us.toArray.toList.take 0 ++ us.toArray.toList.drop k ++ List.replicate (k - 0) (none, 0, 0)).toArray[o + i - o]! = x := by
      rw [show o + i - o = i by omega, getElem!_pos _ i (by simp; omega)]
      have h2 : (us.toArray.toList.take 0 ++ us.toArray.toList.drop k ++ List.replicate (k - 0) (none, 0, 0))[i]? = some x := by
        simp only [List.take_zero, List.nil_append]
        rw [List.getElem?_append_left (by simp; omega), List.getElem?_drop]
        exact x1
      have := (List.getElem?_eq_some_iff.1 h2).2
      simpa using this
    rw [hx]
    rfl
  · have : (Ls.drop k).getD i [] = Ls.getD (k + i) [] := by unfold List.getD; rw [List.getElem?_drop]
    rw [this]
    exact x3.only hO hnb
end Go.Proofs.Ytnbdbahfekneoab

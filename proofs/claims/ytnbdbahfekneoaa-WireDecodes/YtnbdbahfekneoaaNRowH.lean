/-
  Rows of natural numbers whose block holds slices alone: what they are put behind stays.
-/
import Derived.Test.YtnbdbahfekneoaaW12Mem
import Derived.Test.YtnbdbahfekneoaaTapeP
import Derived.ArgAppend
import Derived.Lib.AppendZeros
namespace Go.Proofs.Ytnbdbahfekneoaa
open Go.RowKit

/-- A row of natural numbers in a block of slices alone, from block 'base' on. -/
def NHd (w : World) (base : Nat) (v : Value) (ns : List (List Int)) : Prop :=
  (v = .slice none 0 0 ∧ ns = []) ∨ ∃ b cap cur, v = .slice (some ⟨b, 0, none⟩) ns.length cap ∧ base ≤ b ∧ w.heap[b]? = some (.cells cur 47 (0, 0)) ∧ ns.length ≤ cap ∧ cap ≤ maxLen ∧ cur.size = cap ∧ (∀ j, j < cap → ∃ p n c, cur[j]? = some (.slice p n c)) ∧ ∀ i, i < ns.length → ∃ p n c, cur[i]? = some (.slice p n c) ∧ Nums w p n c (ns.getD i [])
theorem NHd.nil (w : World) (base : Nat) : NHd w base (.slice none 0 0) [] := .inl ⟨rfl, rfl⟩
theorem head_slices {w : World} {b cap : Nat} {cur : Array Value} {t : TypeId} (hg : w.heap[b]? = some (.cells cur t (0, 0))) (hs : cur.size = cap) (hc : ∀ j, j < cap → ∃ p n c, cur[j]? = some (.slice p n c)) : Head w b := by
  refine ⟨cur, t, hg, fun j x => ?_⟩
  by_cases hj : j < cap
  · obtain ⟨p, n, c, e⟩ := hc j hj
    rw [e]
    exact ⟨by simp, by simp⟩
  · rw [Array.getElem?_eq_none (by omega)]
    exact ⟨by simp, by simp⟩
theorem NHd.own {w : World} {base : Nat} {v : Value} {ns : List (List Int)} (h : NHd w base v ns) : ∀ b, v.ownBlock = some b → Head w b ∧ base ≤ b ∧ b < w.heap.size := fun q e => by
  rcases h with ⟨rfl, rfl⟩ | ⟨b, cap, cur, rfl, hb, hg, _, _, hs, hc, _⟩
  · simp [Value.ownBlock] at e
  · simp [Value.ownBlock] at e
    subst e
    exact ⟨head_slices hg hs hc, hb, (Array.getElem?_eq_some_iff.1 hg).1⟩
theorem NHd.head {w w' : World} {base g : Nat} {v : Value} {ns : List (List Int)} (h : NHd w base v ns) (hg : w.grownBy w' (some g)) (hd : Head w g) (hne : ∀ b, v.ownBlock = some b → b ≠ g) : NHd w' base v ns := by
  rcases h with h | ⟨b, cap, cur, rfl, hb, hb2, h1, h2, hs, hc, hi⟩
  · exact .inl h
  · refine .inr ⟨b, cap, cur, rfl, hb, (hg.block b (Array.getElem?_eq_some_iff.1 hb2).1 (fun e => hne b rfl (by simpa using e))).trans hb2, h1, h2, hs, hc, fun i hi' => ?_⟩
    obtain ⟨p, n, c, e, hn⟩ := hi i hi'
    exact ⟨p, n, c, e, hn.head hg hd⟩
theorem NHd.below {w w' : World} {base : Nat} {v : Value} {ns : List (List Int)} (h : NHd w base v ns) (hb : Below w.heap.size w w') : NHd w' base v ns := by
  rcases h with h | ⟨b, cap, cur, rfl, h0, hb2, h1, h2, hs, hc, hi⟩
  · exact .inl h
  · refine .inr ⟨b, cap, cur, rfl, h0, (hb.block b (Array.getElem?_eq_some_iff.1 hb2).1).trans hb2, h1, h2, hs, hc, fun i hi' => ?_⟩
    obtain ⟨p, n, c, e, hn⟩ := hi i hi'
    exact ⟨p, n, c, e, hn.below hb⟩
theorem NHd.row {w : World} {base : Nat} {v : Value} {ns : List (List Int)} (h : NHd w base v ns) : ∃ a c, v = .slice a ns.length c ∧ NRow w a ns.length c ns ∧ (a = none → c = 0) := by
  rcases h with ⟨rfl, rfl⟩ | ⟨b, cap, cur, rfl, h0, hb2, h1, h2, hs, hc, hi⟩
  · exact ⟨none, 0, rfl, NRow.nil _, fun _ => rfl⟩
  · refine ⟨_, cap, rfl, ⟨rfl, h1, h2, fun _ => ⟨b, 0, rfl, fun i hi' => ?_⟩⟩, fun e => by cases e⟩
    obtain ⟨p, n, c, e, hn⟩ := hi i hi'
    exact ⟨p, n, c, by rw [Nat.zero_add, cell_of_row w b i cur _ _ hb2]; exact e, hn⟩
theorem nh_snoc {Ls : List (List Int)} {bs : List Int} {i : Nat} (h : i < Ls.length) : (Ls ++ [bs]).getD i [] = Ls.getD i [] := by unfold List.getD; rw [List.getElem?_append_left h]
theorem nh_last {Ls : List (List Int)} {bs : List Int} : (Ls ++ [bs]).getD Ls.length [] = bs := by simp [List.getD]
theorem nh_zero (k j : Nat) (hj : j < k) : ∃ p n c, (Builtin.zeroCells (Value.slice none 0 0).cells k)[j]? = some (.slice p n c) := by
  have hz : (Builtin.zeroCells (Value.slice none 0 0).cells k).size = k := by
    rw [size_zeroCells]
    simp [Value.cells]
  have : (Builtin.zeroCells (Value.slice none 0 0).cells k)[j]? = some (.slice none 0 0) := by
    rw [Array.getElem?_eq_getElem (by omega)]
    simp [Builtin.zeroCells, Value.cells]
    rw [Nat.mod_one]
    rfl
  exact ⟨_, _, _, this⟩
theorem Try.infoNH : (Try.prog.info? 47).map (fun i => (i.zero, i.size, i.bytes)) = some (some (.slice none 0 0), 1, 24) := by kernel_rfl
/-- One number more is appended. -/
theorem run_appNH (w : World) (t ty : TypeId) (ht : Try.prog.underlying t = some (.slice 47)) {base : Nat} {v : Value} {Ls : List (List Int)} (h : NHd w base v Ls) (hbase : base ≤ w.heap.size) {g1 : Nat} {p : Option Addr} {n c : Nat} {zs : List Int} (hu : w.cell? ⟨g1, 0, none⟩ = some (.slice p n c)) (hz : Nums w p n c zs) (hl : Ls.length ≤ 2147483648) :
    ∃ v' w', (Builtin.append_ #[t, t] ty #[v, .slice (some ⟨g1, 0, none⟩) 1 1]).run Try.prog w = .ok v' w' ∧ NHd w' base v' (Ls ++ [zs]) ∧ w.grownBy w' v.ownBlock ∧ (v'.ownBlock = v.ownBlock ∨ v'.ownBlock = some w.heap.size) := by
  obtain ⟨i0, hi, hz0, hz1, hz2⟩ := info_parts Try.infoNH
  have hnews : ∀ j q, [Value.slice p n c][j]? = some q → w.cell? ((⟨g1, 0, none⟩ : Addr).add j) = some q := fun j q hj => by
    match j, hj with
    | 0, hj =>
      simp at hj
      subst hj
      rw [Addr.add_lit]
      exact hu
  have hone : ∀ q ∈ [Value.slice p n c], q.oneCell' = true := fun q hq => by
    simp at hq
    subst hq
    rfl
  -- the block that is new
  have fresh : ∀ (olds : List Value) (G : Nat), olds.length = Ls.length → Ls.length + 1 ≤ G → G ≤ maxLen → (∀ i, i < Ls.length → ∃ p n c, olds[i]? = some (.slice p n c) ∧ Nums w p n c (Ls.getD i [])) → ∀ row : Option Nat,
      NHd (w.drew.alloc (.cells (olds.toArray ++ [Value.slice p n c].toArray ++ Builtin.zeroCells (Value.slice none 0 0).cells (G - (Ls.length + 1))) 47)) base (.slice (some ⟨w.heap.size, 0, none⟩) (Ls.length + 1) G) (Ls ++ [zs]) ∧ w.grownBy (w.drew.alloc (.cells (olds.toArray ++ [Value.slice p n c].toArray ++ Builtin.zeroCells (Value.slice none 0 0).cells (G - (Ls.length + 1))) 47)) row := by
    intro olds G ho hG hGm hold row
    have hB : Below w.heap.size w (w.drew.alloc (.cells (olds.toArray ++ [Value.slice p n c].toArray ++ Builtin.zeroCells (Value.slice none 0 0).cells (G - (Ls.length + 1))) 47)) := (below_drewN (Below.refl w.heap.size w) 1).alloc (Nat.le_refl _) _
    have hat : ∀ i, i < Ls.length → (olds.toArray ++ [Value.slice p n c].toArray ++ Builtin.zeroCells (Value.slice none 0 0).cells (G - (Ls.length + 1)))[i]? = olds[i]? := fun i q => by
      rw [Array.getElem?_append_left (by simp; omega), Array.getElem?_append_left (by simp; omega)]
      simp
    have hla : (olds.toArray ++ [Value.slice p n c].toArray ++ Builtin.zeroCells (Value.slice none 0 0).cells (G - (Ls.length + 1)))[Ls.length]? = some (.slice p n c) := by
      rw [Array.getElem?_append_left (by simp; omega), Array.getElem?_append_right (by simp; omega)]
      simp [ho]
    have hsz : (olds.toArray ++ [Value.slice p n c].toArray ++ Builtin.zeroCells (Value.slice none 0 0).cells (G - (Ls.length + 1))).size = G := by
      rw [Array.size_append, Array.size_append, size_zeroCells]
      simp [Value.cells]
      omega
    refine ⟨.inr ⟨w.heap.size, G, _, by simp, hbase, heap_alloc_new w.drew _, by simp; omega, hGm, hsz, fun j hj => ?_, fun i hi' => ?_⟩, grown_of_below hB row⟩
    · by_cases q : j < Ls.length
      · obtain ⟨p', n', c', e, _⟩ := hold j q
        exact ⟨p', n', c', by rw [hat j q]; exact e⟩
      · by_cases q2 : j = Ls.length
        · subst q2
          exact ⟨p, n, c, hla⟩
        · rw [Array.getElem?_append_right (by simp; omega)]
          exact nh_zero _ _ (by simp; omega)
    · by_cases q : i < Ls.length
      · obtain ⟨p', n', c', e, hb'⟩ := hold i q
        exact ⟨p', n', c', by rw [hat i q]; exact e, by rw [nh_snoc q]; exact hb'.below hB⟩
      · obtain rfl : i = Ls.length := by simp at hi'; omega
        exact ⟨p, n, c, hla, by rw [nh_last]; exact hz.below hB⟩
  rcases h with ⟨rfl, rfl⟩ | ⟨b, cap, cur, rfl, h0, hg, hlc, hcm, hsz, hall, hc⟩
  · have hr := _root_.Go.run_append_nil (P := Try.prog) w t ty 47 i0 (.slice none 0 0) ht hi hz0 ⟨g1, 0, none⟩ 1 1 [.slice p n c] (by rw [hz1]; rfl) hnews (by decide) (by decide) (by rw [hz2]; decide)
    have hf := fresh [] (grownCap w 1 0 47) rfl (grownCap_ge w 1 0 _) (grownCap_le_maxLen w 1 0 _ (by unfold maxLen; omega)) (fun i hi => by simp at hi) none
    simp only [List.length_nil, Nat.zero_add, List.nil_append] at hf ⊢
    refine ⟨_, _, hr, ?_, ?_, .inr rfl⟩
    · simpa using hf.1
    · simpa [Value.ownBlock] using hf.2
  · by_cases hroom : Ls.length + 1 ≤ cap
    · have hr := _root_.Go.run_append_room_cells (P := Try.prog) w t ty 47 i0 ht hi b 0 Ls.length cap ⟨g1, 0, none⟩ 1 1 [.slice p n c] (by rw [hz1]; rfl) hnews hone hroom (fun j hj => by
        rw [cell_of_row w b _ cur _ _ hg, hz1]
        simp at hj
        subst hj
        rw [Array.getElem?_eq_getElem (by omega)]
        rfl) (fun j hj => frozen_of_row w b _ cur _ hg)
      rw [hz1, Nat.mul_one, Nat.zero_add] at hr
      have hgr := grown_set w b Ls.length (.slice p n c)
      have hhd := head_slices hg hsz hall
      refine ⟨_, _, hr, .inr ⟨b, cap, _, by simp, h0, heap_setCell_same w b Ls.length cur _ (.slice p n c) hg, by simpa using hroom, hcm, by simpa using hsz, fun j hj => ?_, fun i hi' => ?_⟩, hgr, .inl rfl⟩
      · by_cases q : Ls.length = j
        · subst q
          exact ⟨p, n, c, by rw [Array.getElem?_setIfInBounds, if_pos rfl, if_pos (by omega)]⟩
        · rw [Array.getElem?_setIfInBounds, if_neg q]
          exact hall j hj
      · by_cases q : i < Ls.length
        · obtain ⟨p', n', c', e, hb'⟩ := hc i q
          refine ⟨p', n', c', ?_, by rw [nh_snoc q]; exact hb'.head hgr hhd⟩
          rw [Array.getElem?_setIfInBounds, if_neg (by omega)]
          exact e
        · obtain rfl : i = Ls.length := by simp at hi'; omega
          refine ⟨p, n, c, ?_, by rw [nh_last]; exact hz.head hgr hhd⟩
          rw [Array.getElem?_setIfInBounds, if_pos rfl, if_pos (by omega)]
    · obtain ⟨olds, hol⟩ : ∃ olds, olds = cur.toList.take Ls.length := ⟨_, rfl⟩
      have h1 : olds.length = Ls.length := by rw [hol]; simp; omega
      have h2 : ∀ j, j < Ls.length → olds[j]? = cur[j]? := fun j hj => by
        rw [hol, List.getElem?_take, if_pos hj]
        simp
      have hr := _root_.Go.run_append_grow (P := Try.prog) w t ty 47 i0 (.slice none 0 0) ht hi hz0 ⟨b, 0, none⟩ Ls.length cap olds (by rw [hz1, h1, Nat.mul_one]) (fun j q hj => by
        have hjl : j < Ls.length := by rw [← h1]; exact (List.getElem?_eq_some_iff.1 hj).1
        rw [Addr.add_lit, Nat.zero_add, cell_of_row w b j cur _ _ hg, ← h2 j hjl]
        exact hj) ⟨g1, 0, none⟩ 1 1 [.slice p n c] (by rw [hz1]; rfl) hnews (by omega) (by omega) (growslice_fits (by omega) (by rw [hz2]; omega))
      have hf := fresh olds (grownCap w (Ls.length + 1) cap 47) h1 (grownCap_ge w _ cap _) (grownCap_le_maxLen w _ cap _ (by unfold maxLen; omega)) (fun i hi => by
        obtain ⟨p', n', c', e, hb'⟩ := hc i hi
        exact ⟨p', n', c', by rw [h2 i hi]; exact e, hb'⟩) (some b)
      exact ⟨_, _, hr, hf.1, hf.2, .inr rfl⟩
theorem NHd.low {w w' : World} {base : Nat} {v : Value} {ns : List (List Int)} (h : NHd w base v ns) (hg : w.grownBy w' v.ownBlock) (hb : base ≤ w.heap.size) : Below base w w' :=
  ⟨hg.os, hg.tape, hg.output, hg.size, fun k hk => hg.block k (Nat.lt_of_lt_of_le hk hb) (fun e => by have := (h.own k e.symm).2.1; omega)⟩
theorem wpList_appNH (w : World) {ops : Array Oper} {rest : List Oper} {o : Oper} {a : Act} {Q : Exit → Act → World → Prop} (hgd : o.guard = none) (s x : Operand) (t : TypeId)
    (ho : o.op = .call { callee := .builtin .append, args := #[s, x], argTypes := #[t, t] }) (ht : Try.prog.underlying t = some (.slice 47))
    (base : Nat) (v : Value) (ns : List (List Int)) (hs : a.eval s = v) (hown : NHd w base v ns) (g1 : Nat) (p : Option Addr) (n c : Nat) (zs : List Int) (hx : a.eval x = .slice (some ⟨g1, 0, none⟩) 1 1) (hc : w.cell? ⟨g1, 0, none⟩ = some (.slice p n c)) (hz : Nums w p n c zs)
    (hlen : ns.length < 1000000) (hbase : base ≤ w.heap.size)
    (h : ∀ v' w', NHd w' base v' (ns ++ [zs]) → w.grownBy w' v.ownBlock → wpList Try.prog ops Q rest (a.put o.dst v') w') : wpList Try.prog ops Q (o :: rest) a w := by
  obtain ⟨v', w', hr, h1, h2, -⟩ := run_appNH w t o.type ht hown hbase hc hz (by omega)
  exact Lib.wpList_append_run w hgd s x t t ho v _ hs hx v' w' hr (h v' w' h1 h2)
end Go.Proofs.Ytnbdbahfekneoaa

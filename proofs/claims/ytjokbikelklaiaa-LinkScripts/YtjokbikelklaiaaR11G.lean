/-
  The document's end of a link: the contract of find; what is held.
  The document's end of a link: held messages are laid in and taken out (memory).
  The document's end of a link: a row of its own is another one; what is due is drained.
  The document's end of a link: what In carries along.
  What stage 11's laws ask of an end of a link; the document's end is one.
-/
import Derived.Test.YtjokbikelklaiaaRef11F
namespace Go.Proofs.Ytjokbikelklaiaa
open Go.RowKit

theorem RowH.at {w : World} {v : Value} {hs : List (Nat × List Int)} (h : RowH w v hs) {i : Nat} (hi : i < hs.length) : ∃ g cap p n c, v = .slice (some ⟨g, 0, none⟩) hs.length cap ∧ w.cell? ⟨g, i * 2, none⟩ = some (.int .i64 ((hs.getD i (0, [])).1 : Int)) ∧ w.cell? ⟨g, i * 2 + 1, none⟩ = some (.slice p n c) ∧ BytG w p n c (hs.getD i (0, [])).2 := by
  obtain ⟨vs, h1, h2⟩ := h
  obtain ⟨p, n, c, e, e2, hb⟩ := h2 i hi
  rcases h1.2 with ⟨rfl, hn⟩ | ⟨g, cap, cur, rfl, _, hg, _, _, _, htk⟩
  · omega
  · refine ⟨g, cap, p, n, c, rfl, ?_, ?_, hb⟩
    · rw [cell_of_row w g (i * 2) cur _ _ hg]
      rw [← htk, List.getElem?_take] at e
      split at e
      · simpa using e
      · cases e
    · rw [cell_of_row w g (i * 2 + 1) cur _ _ hg]
      rw [← htk, List.getElem?_take] at e2
      split at e2
      · simpa using e2
      · cases e2
/-- Where a number is held first; -1: nowhere. -/
def FoundT (hs : List (Nat × List Int)) (n : Nat) (z : Int) : Prop := (∃ i, i < hs.length ∧ (hs.getD i (0, [])).1 = n ∧ (∀ j, j < i → (hs.getD j (0, [])).1 ≠ n) ∧ z = (i : Int)) ∨ ((∀ j, j < hs.length → (hs.getD j (0, [])).1 ≠ n) ∧ z = -1)

set_option maxRecDepth 20000 in
set_option maxHeartbeats 3200000 in
theorem r11find_any (g n : Nat) (st : LS) (v1 v4 v6 : Value) (hs : List (Nat × List Int)) (T : Nat → Prop) (w : World) (h : REndV w g st v1 v4 v6 hs T) :
    Calls Try.prog 39 #[.pointer (some ⟨g, 0, none⟩), .int .i64 n] w fun e w' => ∃ z, e = .returned (.int .i64 z) ∧ FoundT hs n z ∧ w' = w := by
  have c6 : w.cell? ⟨g, 6, none⟩ = some v6 := h.cell 6
  obtain ⟨a6, k6, e6, -, hk1, hk2⟩ := h.hold.slice
  unfold maxLen at hk2
  have HH : Hid (RowH w v6 hs) := h.hold
  have hfew := h.few.2.2
  obtain ⟨m, hm⟩ : ∃ m, m = hs.length := ⟨_, rfl⟩
  have HM : Hid (m = hs.length) := hm
  rw [← hm] at e6 hk1 hfew
  rw [e6] at c6
  clear h hm
  go_enter Try.func39, Try.ntmps39
  go_wp2
  go_loopw [5] (fun v5 wr => ∃ k : Nat, v5 = .int .i64 k ∧ k ≤ m ∧ Hid (∀ j, j < k → (hs.getD j (0, [])).1 ≠ n) ∧ w = wr) (fun v5 _ => m - (intOf v5).toNat)
  case atStart => exact ⟨0, rfl, Nat.zero_le _, (fun j hj => absurd hj (by omega) : ∀ j, j < 0 → _), rfl⟩
  case round =>
    obtain ⟨k, rfl, hk, HJ, rfl⟩ := hrel
    by_cases hlt : k < m
    · have hlti : (k : Int) < (m : Int) := by omega
      have hk0 : (0 : Int) ≤ (k : Int) := by omega
      obtain ⟨gq, cap, p, q, c, x1, x2, x3, -⟩ := HH.out.at (i := k) (by rw [← HM.out]; exact hlt)
      have x1' : Value.slice a6 m k6 = .slice (some ⟨gq, 0, none⟩) m cap := by rw [← e6, x1, HM.out]
      obtain ⟨rfl, -, rfl⟩ : a6 = some ⟨gq, 0, none⟩ ∧ m = m ∧ k6 = cap := by injection x1' with y1 y2 y3; exact ⟨y1, y2, y3⟩
      obtain ⟨s, hs1⟩ : ∃ s, s = (hs.getD k (0, [])).1 := ⟨_, rfl⟩
      rw [← hs1] at x2
      have HS : Hid (s = (hs.getD k (0, [])).1) := hs1
      clear hs1 x1 x1' x3
      by_cases he : s = n
      · have hei : ((s : Int) == (n : Int)) = true := by simp [he]
        have HR : Hid (FoundT hs n (k : Int)) := .inl ⟨k, by rw [← HM.out]; exact hlt, HS.out.symm.trans he, HJ.out, rfl⟩
        subst he
        clear HJ HS
        go_wp2
        go_ret
        exact ⟨_, rfl, HR.out, rfl⟩
      · have hei : ((s : Int) == (n : Int)) = false := by simp; omega
        have hei2 : (s == n) = false := by simp [he]
        have HN : Hid (∀ j, j < k + 1 → (hs.getD j (0, [])).1 ≠ n) := fun j hj => by
          rcases Nat.lt_or_ge j k with x | x
          · exact HJ.out j x
          · obtain rfl : j = k := by omega
            rw [← HS.out]; exact he
        clear HJ HS
        go_wp2
        go_roundw
        case rel => exact ⟨k + 1, by go_num, by omega, HN, by first | rfl | trivial⟩
        case measure => simp [intOf]; omega
    · obtain rfl : k = m := by omega
      have HR : Hid (FoundT hs n (-1)) := .inr ⟨fun j hj => HJ.out j (by rw [HM.out]; exact hj), rfl⟩
      clear HJ
      go_wp2
      go_ret
      exact ⟨_, rfl, HR.out, rfl⟩
end Go.Proofs.Ytjokbikelklaiaa

namespace Go.Proofs.Ytjokbikelklaiaa
open Go.RowKit

theorem Try.infoH : (Try.prog.info? 74).map (fun i => (i.zero, i.size, i.bytes)) = some (some (.agg #[.int .i64 0, .slice none 0 0]), 2, 32) := by kernel_rfl
/-- Held messages are appended to a row of them. -/
theorem wp_appHeld (w : World) {o : Oper} {a : Act} {K : Act → World → Prop} {Q : Exit → Act → World → Prop} (s x : Operand) (t : TypeId)
    (ho : o.op = .call { callee := .builtin .append, args := #[s, x], argTypes := #[t, t] }) (ht : Try.prog.underlying t = some (.slice 74))
    (v : Value) (vs : List Value) (n : Nat) (hs : a.eval s = v) (hown : w.ownsRow 0 74 2 v n vs) (ad : Addr) (m c : Nat) (news : List Value) (hx : a.eval x = .slice (some ad) m c) (hl : news.length = m * 2) (hu : ∀ j u, news[j]? = some u → w.cell? (ad.add j) = some u) (hu1 : ∀ u, u ∈ news → u.oneCell' = true) (hn : n + m ≤ 1000)
    (h : ∀ v' w', w'.ownsRow 0 74 2 v' (n + m) (vs ++ news) → w.grownBy w' v.ownBlock → (v'.ownBlock = v.ownBlock ∨ v'.ownBlock = some w.heap.size) → K (a.put o.dst v') w') : Oper.wp Try.prog o a w K Q := by
  obtain ⟨i0, hi, hz0, hz1, hz2⟩ := info_parts Try.infoH
  obtain ⟨v', w', hr, h2, h3, h4, h5⟩ := run_append_own_at (P := Try.prog) w 0 t o.type 74 i0 (.agg #[.int .i64 0, .slice none 0 0]) 2 32 ht hi hz0 hz1 hz2 rfl (by decide) v n vs hown ad m c news hl hu hu1 (by unfold maxLen; omega) (by omega) (Nat.zero_le _)
  unfold Oper.wp
  simp [execOp, ho, resolve, invoke, builtin, hs, hx, hr, Result.andThen]
  exact h v' w' h2 h3 h5
theorem step_appHeld (w : World) {ops : Array Oper} {o : Oper} {a : Act} {K : Act → World → Prop} {Q : Exit → Act → World → Prop} {E : Prop} (hgd : o.guard = none) (s x : Operand) (t : TypeId)
    (ho : o.op = .call { callee := .builtin .append, args := #[s, x], argTypes := #[t, t] }) (ht : Try.prog.underlying t = some (.slice 74))
    (v : Value) (vs : List Value) (n : Nat) (hs : a.eval s = v) (hown : w.ownsRow 0 74 2 v n vs) (ad : Addr) (m c : Nat) (news : List Value) (hx : a.eval x = .slice (some ad) m c) (hl : news.length = m * 2) (hu : ∀ j u, news[j]? = some u → w.cell? (ad.add j) = some u) (hu1 : ∀ u, u ∈ news → u.oneCell' = true) (hn : n + m ≤ 1000)
    (h : ∀ v' w', w'.ownsRow 0 74 2 v' (n + m) (vs ++ news) → w.grownBy w' v.ownBlock → (v'.ownBlock = v.ownBlock ∨ v'.ownBlock = some w.heap.size) → K (a.put o.dst v') w') : if Region.wanted o (yielded ops a.tmps) = true then Oper.wp Try.prog o a w K Q else E := by
  rw [if_pos (by simp [Region.wanted, hgd])]
  exact wp_appHeld w s x t ho ht v vs n hs hown ad m c news hx hl hu hu1 hn h

/-- What a row of held messages says of its cells. -/
def HeldC (w : World) (vs : List Value) (hs : List (Nat × List Int)) : Prop := ∀ i, i < hs.length → ∃ p n c, vs[i * 2]? = some (.int .i64 ((hs.getD i (0, [])).1 : Int)) ∧ vs[i * 2 + 1]? = some (.slice p n c) ∧ BytG w p n c (hs.getD i (0, [])).2
theorem HeldC.only {C : Nat → Prop} {w w' : World} {vs : List Value} {hs : List (Nat × List Int)} (h : HeldC w vs hs) (k : Only C w w') (hC : ∀ b, C b → ¬ IsB w b) : HeldC w' vs hs := fun i hi => by
  obtain ⟨p, n, c, e, e2, hb⟩ := h i hi
  exact ⟨p, n, c, e, e2, hb.only k hC⟩
theorem HeldC.append {w : World} {vs us : List Value} {hs ks : List (Nat × List Int)} (h : HeldC w vs hs) (k : HeldC w us ks) (hl : vs.length = hs.length * 2) : HeldC w (vs ++ us) (hs ++ ks) := fun i hi => by
  by_cases q : i < hs.length
  · obtain ⟨p, n, c, e, e2, hb⟩ := h i q
    refine ⟨p, n, c, ?_, ?_, ?_⟩
    · rw [List.getElem?_append_left (by omega), e]
      unfold List.getD
      rw [List.getElem?_append_left q]
    · rw [List.getElem?_append_left (by omega), e2]
    · rw [show (hs ++ ks).getD i (0, []) = hs.getD i (0, []) by unfold List.getD; rw [List.getElem?_append_left q]]
      exact hb
  · obtain ⟨p, n, c, e, e2, hb⟩ := k (i - hs.length) (by simp at hi; omega)
    have hg : (hs ++ ks).getD i (0, []) = ks.getD (i - hs.length) (0, []) := by unfold List.getD; rw [List.getElem?_append_right (by omega)]
    refine ⟨p, n, c, ?_, ?_, ?_⟩
    · rw [List.getElem?_append_right (by omega), hl, show i * 2 - hs.length * 2 = (i - hs.length) * 2 by omega, e, hg]
    · rw [List.getElem?_append_right (by omega), hl, show i * 2 + 1 - hs.length * 2 = (i - hs.length) * 2 + 1 by omega, e2]
    · rw [hg]
      exact hb
theorem HeldC.take {w : World} {vs : List Value} {hs : List (Nat × List Int)} (h : HeldC w vs hs) (k : Nat) (hk : k ≤ hs.length) : HeldC w (vs.take (k * 2)) (hs.take k) := fun i hi => by
  have hi' : i < k := by simp at hi; omega
  obtain ⟨p, n, c, e, e2, hb⟩ := h i (by omega)
  have hg : (hs.take k).getD i (0, []) = hs.getD i (0, []) := by unfold List.getD; rw [List.getElem?_take, if_pos hi']
  exact ⟨p, n, c, by rw [List.getElem?_take, if_pos (by omega), e, hg], by rw [List.getElem?_take, if_pos (by omega), e2], by rw [hg]; exact hb⟩
theorem HeldC.drop {w : World} {vs : List Value} {hs : List (Nat × List Int)} (h : HeldC w vs hs) (k : Nat) : HeldC w (vs.drop (k * 2)) (hs.drop k) := fun i hi => by
  obtain ⟨p, n, c, e, e2, hb⟩ := h (k + i) (by simp at hi; omega)
  have hg : (hs.drop k).getD i (0, []) = hs.getD (k + i) (0, []) := by unfold List.getD; rw [List.getElem?_drop]
  exact ⟨p, n, c, by rw [List.getElem?_drop, show k * 2 + i * 2 = (k + i) * 2 by omega, e, hg], by rw [List.getElem?_drop, show k * 2 + (i * 2 + 1) = (k + i) * 2 + 1 by omega, e2], by rw [hg]; exact hb⟩

/-- What is held of a row, one more, one less. -/
theorem heldAt_none {hs : List (Nat × List Int)} {n : Nat} (h : ∀ j, j < hs.length → (hs.getD j (0, [])).1 ≠ n) : heldAt hs n = none := by
  unfold heldAt
  rw [Option.map_eq_none_iff, List.find?_eq_none]
  intro e he
  obtain ⟨j, hj, rfl⟩ := List.mem_iff_getElem.1 he
  have := h j hj
  simp [List.getD, hj] at this
  simpa using this
theorem heldAt_some {hs : List (Nat × List Int)} {n i : Nat} (hi : i < hs.length) (h1 : (hs.getD i (0, [])).1 = n) (h2 : ∀ j, j < i → (hs.getD j (0, [])).1 ≠ n) : heldAt hs n = some (hs.getD i (0, [])).2 := by
  unfold heldAt
  have : hs.find? (fun e => e.1 == n) = some (hs.getD i (0, [])) := by
    rw [List.find?_eq_some_iff_getElem]
    refine ⟨by simpa using h1, i, hi, by simp [List.getD, hi], fun j hj => ?_⟩
    have := h2 j hj
    simp [List.getD, show j < hs.length by omega] at this
    simpa using this
  rw [this]
  rfl
theorem heldAt_snoc {hs : List (Nat × List Int)} {n m : Nat} {b : List Int} (h : heldAt hs n = none) : heldAt (hs ++ [(n, b)]) m = if m = n then some b else heldAt hs m := by
  unfold heldAt at h ⊢
  rw [List.find?_append]
  by_cases c : m = n
  · subst c
    rw [Option.map_eq_none_iff] at h
    rw [h, if_pos rfl]
    simp
  · rw [if_neg c]
    have : List.find? (fun e : Nat × List Int => e.1 == m) [(n, b)] = none := by simp [Ne.symm c]
    rw [this]
    simp
end Go.Proofs.Ytjokbikelklaiaa

namespace Go.Proofs.Ytjokbikelklaiaa
open Go.RowKit

theorem part_at {hs : List (Nat × List Int)} {i : Nat} (hi : i < hs.length) : hs = hs.take i ++ hs.getD i (0, []) :: hs.drop (i + 1) := by
  rw [show hs.getD i (0, []) = hs[i] by simp [List.getD, hi]]
  simp
theorem keys_less {hs : List (Nat × List Int)} {i : Nat} (hi : i < hs.length) (hk : (hs.map Prod.fst).Nodup) : ((hs.take i ++ hs.drop (i + 1)).map Prod.fst).Nodup ∧ (hs.getD i (0, [])).1 ∉ (hs.take i ++ hs.drop (i + 1)).map Prod.fst := by
  have h := part_at hi
  rw [h, List.map_append, List.map_cons] at hk
  have hp := (List.perm_middle (a := (hs.getD i (0, [])).1) (l₁ := (hs.take i).map Prod.fst) (l₂ := (hs.drop (i + 1)).map Prod.fst)).nodup_iff.1 hk
  rw [List.nodup_cons] at hp
  rw [List.map_append]
  exact ⟨hp.2, hp.1⟩
theorem heldAt_less {hs : List (Nat × List Int)} {i m : Nat} (hi : i < hs.length) (hk : (hs.map Prod.fst).Nodup) : heldAt (hs.take i ++ hs.drop (i + 1)) m = if m = (hs.getD i (0, [])).1 then none else heldAt hs m := by
  obtain ⟨-, h2⟩ := keys_less hi hk
  by_cases c : m = (hs.getD i (0, [])).1
  · rw [if_pos c]
    subst c
    unfold heldAt
    rw [Option.map_eq_none_iff, List.find?_eq_none]
    intro e he hc
    have : e.1 = (hs.getD i (0, [])).1 := by simpa using hc
    exact h2 (List.mem_map.2 ⟨e, he, this⟩)
  · rw [if_neg c]
    have h := part_at hi
    unfold heldAt
    have h3 : hs.find? (fun e => e.1 == m) = (hs.take i ++ hs.getD i (0, []) :: hs.drop (i + 1)).find? (fun e => e.1 == m) := congrArg _ h
    rw [h3, List.find?_append, List.find?_append, List.find?_cons_of_neg (by simpa using Ne.symm c)]

/-- The messages that were got are one more. -/
theorem REndV.newAll {w wa w3 : World} {g : Nat} {st : LS} {v1 v4 v4' v6 : Value} {hs : List (Nat × List Int)} {T : Nat → Prop} {vs : List Value} {p : Option Addr} {n c : Nat} {bs : List Int} (h : REndV w g st v1 v4 v6 hs T) (hwa : Below w.heap.size w wa)
    (h2 : ∀ i, i < st.all.length → ∃ p n c, vs[i]? = some (.slice p n c) ∧ BytG w p n c (st.all.getD i [])) (hvs : vs.length = st.all.length) (hbs : BytG w p n c bs)
    (hown : w3.ownsRow 0 31 1 v4' (st.all.length + 1) (vs ++ [.slice p n c])) (hg : wa.grownBy w3 v4.ownBlock) (hv : v4'.ownBlock = v4.ownBlock ∨ v4'.ownBlock = some wa.heap.size) (hlen : st.all.length < 1073741824) (hbl : bs.length ≤ 1048576) {st' : LS} (e1 : st'.took = st.took) (e4 : st'.all = st.all ++ [bs]) (e6 : st'.hold = st.hold) (hf : st'.Loose) (hcells : ∀ x, (endCells st v1 v4 v6).setIfInBounds 4 x = endCells st' v1 x v6) :
    ∃ T', REndV (w3.setCell ⟨g, 4, none⟩ v4') g st' v1 v4' v6 hs T' ∧ Only T w (w3.setCell ⟨g, 4, none⟩ v4') ∧ ∀ b, T' b → T b ∨ w.heap.size ≤ b := by
  have hold := h.old
  have hgl := h.lt
  have hs1 := hwa.size
  have hnb := h.notB
  obtain ⟨T', hT'⟩ : ∃ T' : Nat → Prop, T' = fun b => b = g ∨ v1.ownBlock = some b ∨ v4'.ownBlock = some b ∨ v6.ownBlock = some b := ⟨_, rfl⟩
  have t2 : ∀ b, T' b → T b ∨ w.heap.size ≤ b := fun b e => by
    rw [hT'] at e
    rcases e with e | e | e | e
    · exact .inl ((h.foot b).2 (.inl e))
    · exact .inl ((h.foot b).2 (.inr (.inl e)))
    · rcases hv with k | k
      · exact .inl ((h.foot b).2 (.inr (.inr (.inl (k.symm.trans e)))))
      · have := Option.some.inj (e.symm.trans k)
        exact .inr (by omega)
    · exact .inl ((h.foot b).2 (.inr (.inr (.inr e))))
  have o1 : Only T wa w3 := Only.of_grown hg (fun b e => (h.foot b).2 (.inr (.inr (.inl e))))
  have o2 : Only (fun b => b = g) w3 (w3.setCell ⟨g, 4, none⟩ v4') := Only.of_grown (grown_set w3 g 4 v4') (fun b e => by cases e; rfl)
  have o12 : Only T wa (w3.setCell ⟨g, 4, none⟩ v4') := o1.trans o2 (fun q e => .inl ((h.foot q).2 (.inl e)))
  have o0 : Only T w (w3.setCell ⟨g, 4, none⟩ v4') := (Only.of_below (T := T) hwa).trans o12 (fun q e => .inl e)
  have hne1 : v4'.ownBlock ≠ some g := by
    rcases hv with k | k
    · rw [k]; exact h.apart.1.2.1
    · rw [k]
      intro e
      have := Option.some.inj e
      omega
  have hg3 : w3.heap[g]? = some (.cells (endCells st v1 v4 v6) 43 (0, 0)) := by
    rw [hg.block g (by omega) (fun e => h.apart.1.2.1 e.symm), hwa.block g hgl]
    exact h.heap
  have far : ∀ b, T b → b ≠ wa.heap.size := fun b e => by have := hold b e; omega
  have oo : ∀ u : Value, u.ownBlock ≠ some g → (∀ b, u.ownBlock = some b → v4.ownBlock ≠ some b) → Only (fun b => T b ∧ u.ownBlock ≠ some b) w (w3.setCell ⟨g, 4, none⟩ v4') := fun u u1 u2 => ⟨o0.os, o0.tape, o0.output, o0.size, fun b hb hn => by
    by_cases q : T b
    · have q4 : u.ownBlock = some b := Classical.byContradiction (fun q4 => hn ⟨q, q4⟩)
      have x1 : b ≠ g := fun e => u1 (by rw [q4, e])
      rw [o2.block b (by have := hg.size; omega) x1, hg.block b (by omega) (fun e => u2 b q4 e.symm), hwa.block b hb]
    · exact o0.block b hb q⟩
  refine ⟨T', ⟨?_, fun b => by rw [hT'], ⟨⟨h.apart.1.1, hne1, h.apart.1.2.2⟩, fun b e => ⟨fun q => ?_, (h.apart.2.1 b e).2⟩, fun b e q => ?_⟩, ?_, ?_, ?_, by rw [e6]; exact h.held, h.keys, hf, ?_, ?_⟩, o0, t2⟩
  · rw [heap_setCell_same w3 g 4 _ _ v4' hg3, hcells]
  · rcases hv with k | k
    · exact (h.apart.2.1 b e).1 (k.symm.trans q)
    · exact far b ((h.foot b).2 (.inr (.inl e))) (Option.some.inj (q.symm.trans k))
  · rcases hv with k | k
    · exact h.apart.2.2 b (k.symm.trans e) q
    · exact far b ((h.foot b).2 (.inr (.inr (.inr q)))) (Option.some.inj (e.symm.trans k))
  · rw [e1]
    exact h.took.only (oo v1 h.apart.1.1 (fun b e => (h.apart.2.1 b e).1)) (fun b e q => q.2 e) (fun b e => hnb b e.1)
  · rw [e4]
    refine RowB.snoc (vs := vs) (p := p) (n := n) (c := c) (World.ownsRow.kept hown (grown_set w3 g 4 v4') ?_) hvs (fun i hi => ?_) ?_
    · cases q : v4'.ownBlock with
      | none => exact .inl rfl
      | some k => exact .inr (by rw [← q]; exact hne1)
    · obtain ⟨p', n', c', e, hb⟩ := h2 i hi
      exact ⟨p', n', c', e, hb.only o0 hnb⟩
    · exact hbs.only o0 hnb
  · exact h.hold.only (oo v6 h.apart.1.2.2 (fun b e q => h.apart.2.2 b q e)) (fun b e q => q.2 e) (fun b e => hnb b e.1)
  · rw [e1, e4]
    exact ⟨h.few.1, by simp; omega, h.few.2.2⟩
  · rw [e1, e4]
    refine ⟨h.short.1, fun L hL => ?_, h.short.2.2⟩
    rcases List.mem_append.1 hL with k | k
    · exact h.short.2.1 L k
    · simp at k
      rw [k]
      exact hbl
/-- Other messages are held. -/
theorem REndV.newHold {w w3 : World} {g : Nat} {st st' : LS} {v1 v4 v6 v6' : Value} {hs hs' : List (Nat × List Int)} {T : Nat → Prop} {vs : List Value} (h : REndV w g st v1 v4 v6 hs T) (o : Only (fun b => v6.ownBlock = some b) w w3)
    (hown : w3.ownsRow 0 74 2 v6' hs'.length vs) (hv : v6'.ownBlock = v6.ownBlock ∨ ∀ b, v6'.ownBlock = some b → w.heap.size ≤ b) (hc : HeldC w3 vs hs') (e1 : st'.took = st.took) (e4 : st'.all = st.all) (e6 : ∀ n, st'.hold n = heldAt hs' n) (hk : (hs'.map Prod.fst).Nodup) (hf : st'.Loose) (hl : hs'.length ≤ 16) (hsh : ∀ e, e ∈ hs' → e.2.length ≤ 1048576) (hcells : ∀ x, (endCells st v1 v4 v6).setIfInBounds 6 x = endCells st' v1 v4 x) :
    ∃ T', REndV (w3.setCell ⟨g, 6, none⟩ v6') g st' v1 v4 v6' hs' T' ∧ Only T w (w3.setCell ⟨g, 6, none⟩ v6') ∧ ∀ b, T' b → T b ∨ w.heap.size ≤ b := by
  have hold := h.old
  have hgl := h.lt
  have hnb := h.notB
  obtain ⟨T', hT'⟩ : ∃ T' : Nat → Prop, T' = fun b => b = g ∨ v1.ownBlock = some b ∨ v4.ownBlock = some b ∨ v6'.ownBlock = some b := ⟨_, rfl⟩
  have t2 : ∀ b, T' b → T b ∨ w.heap.size ≤ b := fun b e => by
    rw [hT'] at e
    rcases e with e | e | e | e
    · exact .inl ((h.foot b).2 (.inl e))
    · exact .inl ((h.foot b).2 (.inr (.inl e)))
    · exact .inl ((h.foot b).2 (.inr (.inr (.inl e))))
    · rcases hv with q | q
      · exact .inl ((h.foot b).2 (.inr (.inr (.inr (q.symm.trans e)))))
      · exact .inr (q b e)
  have o1 : Only T w w3 := o.wide (fun b e => (h.foot b).2 (.inr (.inr (.inr e))))
  have o2 : Only (fun b => b = g) w3 (w3.setCell ⟨g, 6, none⟩ v6') := Only.of_grown (grown_set w3 g 6 v6') (fun b e => by cases e; rfl)
  have o0 : Only T w (w3.setCell ⟨g, 6, none⟩ v6') := o1.trans o2 (fun q e => .inl ((h.foot q).2 (.inl e)))
  have far : ∀ b, T b → (∀ b, v6'.ownBlock = some b → w.heap.size ≤ b) → v6'.ownBlock ≠ some b := fun b e q k => by have := hold b e; have := q b k; omega
  have hne1 : v6'.ownBlock ≠ some g := by
    rcases hv with k | k
    · rw [k]; exact h.apart.1.2.2
    · exact far g ((h.foot g).2 (.inl rfl)) k
  have hg3 : w3.heap[g]? = some (.cells (endCells st v1 v4 v6) 43 (0, 0)) := by
    rw [o.block g hgl h.apart.1.2.2]
    exact h.heap
  have oo : ∀ u : Value, u.ownBlock ≠ some g → (∀ b, u.ownBlock = some b → v6.ownBlock ≠ some b) → Only (fun b => T b ∧ u.ownBlock ≠ some b) w (w3.setCell ⟨g, 6, none⟩ v6') := fun u u1 u2 => ⟨o0.os, o0.tape, o0.output, o0.size, fun b hb hn => by
    by_cases q : T b
    · have q4 : u.ownBlock = some b := Classical.byContradiction (fun q4 => hn ⟨q, q4⟩)
      have x1 : b ≠ g := fun e => u1 (by rw [q4, e])
      rw [o2.block b (by have := o.size; omega) x1, o.block b hb (u2 b q4)]
    · exact o0.block b hb q⟩
  refine ⟨T', ⟨?_, fun b => by rw [hT'], ⟨⟨h.apart.1.1, h.apart.1.2.1, hne1⟩, fun b e => ⟨(h.apart.2.1 b e).1, ?_⟩, fun b e => ?_⟩, ?_, ?_, ?_, e6, hk, hf, ?_, ?_⟩, o0, t2⟩
  · rw [heap_setCell_same w3 g 6 _ _ v6' hg3, hcells]
  · rcases hv with k | k
    · rw [k]; exact (h.apart.2.1 b e).2
    · exact far b ((h.foot b).2 (.inr (.inl e))) k
  · rcases hv with k | k
    · rw [k]; exact h.apart.2.2 b e
    · exact far b ((h.foot b).2 (.inr (.inr (.inl e)))) k
  · rw [e1]
    exact h.took.only (oo v1 h.apart.1.1 (fun b e => (h.apart.2.1 b e).2)) (fun b e q => q.2 e) (fun b e => hnb b e.1)
  · rw [e4]
    exact h.all.only (oo v4 h.apart.1.2.1 h.apart.2.2) (fun b e q => q.2 e) (fun b e => hnb b e.1)
  · refine ⟨vs, World.ownsRow.kept hown (grown_set w3 g 6 v6') ?_, ?_⟩
    · cases q : v6'.ownBlock with
      | none => exact .inl rfl
      | some k => exact .inr (by rw [← q]; exact hne1)
    · exact hc.only o2 (fun b e => by rw [e]; exact IsB.not hg3 (by decide))
  · rw [e1, e4]
    exact ⟨h.few.1, h.few.2.1, hl⟩
  · rw [e1, e4]
    exact ⟨h.short.1, h.short.2.1, hsh⟩
end Go.Proofs.Ytjokbikelklaiaa

namespace Go.Proofs.Ytjokbikelklaiaa
open Go.RowKit

/-- What a call that takes a frame's bytes makes. -/
def InT11 (At : World → Nat → LS → (Nat → Prop) → Prop) (w : World) (g : Nat) (st : LS) (T : Nat → Prop) (bs : List Int) (e : Ending) (w' : World) : Prop :=
  ((∀ f, ¬ IsFr f bs) ∧ e = .returned (.int .i64 14) ∧ EndT11 At w g st T w') ∨ (∃ f, IsFr f bs ∧ e = .returned (.int .i64 (st.inE f)) ∧ EndT11 At w g (st.inF f) T w')

/-- Numbers that are all told apart, of so many: they are no more. -/
theorem few_keys : ∀ (k a : Nat) (l : List Nat), l.Nodup → (∀ x, x ∈ l → a ≤ x ∧ x < a + k) → l.length ≤ k
  | 0, a, l, _, h => by
    cases l with
    | nil => exact Nat.le_refl _
    | cons x l => have := h x (List.mem_cons_self ..); omega
  | k + 1, a, l, hn, h => by
    by_cases hx : (a + k) ∈ l
    · have h1 := few_keys k a (l.erase (a + k)) (hn.erase _) (fun x hm => by
        rw [hn.mem_erase_iff] at hm
        have := h x hm.2
        have := hm.1
        omega)
      rw [List.length_erase_of_mem hx] at h1
      omega
    · have h1 := few_keys k a l hn (fun x hm => by
        have := h x hm
        have : x ≠ a + k := fun e => hx (e ▸ hm)
        omega)
      omega
theorem heldAt_mem {hs : List (Nat × List Int)} {e : Nat × List Int} (he : e ∈ hs) : heldAt hs e.1 ≠ none := by
  unfold heldAt
  intro h
  rw [Option.map_eq_none_iff, List.find?_eq_none] at h
  exact h e he (by simp)
/-- What is held are at most 16. -/
theorem few_held {st : LS} {hs : List (Nat × List Int)} (hf : st.Fine) (hh : ∀ n, st.hold n = heldAt hs n) (hk : (hs.map Prod.fst).Nodup) : hs.length ≤ 16 := by
  have := few_keys 16 st.all.length (hs.map Prod.fst) hk (fun x hx => by
    obtain ⟨e, he, rfl⟩ := List.mem_map.1 hx
    cases q : heldAt hs e.1 with
    | none => exact absurd q (heldAt_mem he)
    | some b => exact hf.hold e.1 b ((hh _).trans q))
  simpa using this

/-- A frame's variable, read alone. -/
structure FrV (w : World) (g : Nat) (d : Bool) (s a : Int) (p : Option Addr) (l c : Nat) : Prop where
  c0 : w.cell? ⟨g, 0, none⟩ = some (.bool d)
  c1 : w.cell? ⟨g, 1, none⟩ = some (.int .i64 s)
  c2 : w.cell? ⟨g, 2, none⟩ = some (.int .i64 a)
  c3 : w.cell? ⟨g, 3, none⟩ = some (.slice p l c)
theorem FrV.only {C : Nat → Prop} {w w' : World} {g : Nat} {d : Bool} {s a : Int} {p : Option Addr} {l c : Nat} (h : FrV w g d s a p l c) (k : Only C w w') (hn : ¬ C g) : FrV w' g d s a p l c :=
  ⟨k.cell h.c0 hn, k.cell h.c1 hn, k.cell h.c2 hn, k.cell h.c3 hn⟩

/-- Where In is: the end knows stx; the frame's variable is V. -/
structure InAt (w : World) (T : Nat → Prop) (g V : Nat) (d : Bool) (s a : Int) (p : Option Addr) (l c : Nat) (body : List Int) (stx : LS) (v1 v4 v6 : Value) (hs : List (Nat × List Int)) (Tx : Nat → Prop) (wx : World) : Prop where
  ends : REndV wx g stx v1 v4 v6 hs Tx
  var : FrV wx V d s a p l c
  byt : BytG wx p l c body
  only : Only T w wx
  foot : ∀ b, Tx b → T b ∨ w.heap.size ≤ b
  new : w.heap.size ≤ V ∧ ¬ Tx V
theorem InAt.end {w : World} {T : Nat → Prop} {g V : Nat} {d : Bool} {s a : Int} {p : Option Addr} {l c : Nat} {body : List Int} {stx : LS} {v1 v4 v6 : Value} {hs : List (Nat × List Int)} {Tx : Nat → Prop} {wx : World} (h : InAt w T g V d s a p l c body stx v1 v4 v6 hs Tx wx) (hF : stx.Fine) : EndT11 REnd w g stx T wx := ⟨Tx, ⟨hF, v1, v4, v6, hs, h.ends⟩, h.only, h.foot⟩
theorem InAt.draw {w : World} {T : Nat → Prop} {g V : Nat} {d : Bool} {s a : Int} {p : Option Addr} {l c : Nat} {body : List Int} {stx : LS} {v1 v4 v6 : Value} {hs : List (Nat × List Int)} {Tx : Nat → Prop} {wx : World} (h : InAt w T g V d s a p l c body stx v1 v4 v6 hs Tx wx) (j : Nat) : InAt w T g V d s a p l c body stx v1 v4 v6 hs Tx (wx.drewN j) := by
  have o : ∀ C : Nat → Prop, Only C wx (wx.drewN j) := fun C => ⟨rfl, rfl, rfl, Nat.le_refl _, fun _ _ _ => rfl⟩
  exact ⟨(h.ends.draw (wx.drewN j) rfl rfl rfl rfl).1, h.var.only (o (fun _ => False)) (fun e => e), h.byt.only (o (fun _ => False)) (fun _ e => e.elim), h.only.trans (o T) (fun _ e => .inl e), h.foot, h.new⟩
/-- The end has gone on to wy. -/
theorem InAt.go {w : World} {T : Nat → Prop} {g V : Nat} {d : Bool} {s a : Int} {p : Option Addr} {l c : Nat} {body : List Int} {stx sty : LS} {v1 v4 v6 u1 u4 u6 : Value} {hs ks : List (Nat × List Int)} {Tx Ty : Nat → Prop} {wx wy : World} (h : InAt w T g V d s a p l c body stx v1 v4 v6 hs Tx wx) (hy : REndV wy g sty u1 u4 u6 ks Ty) (o : Only Tx wx wy) (ht : ∀ b, Ty b → Tx b ∨ wx.heap.size ≤ b) : InAt w T g V d s a p l c body sty u1 u4 u6 ks Ty wy := by
  have hsz := h.only.size
  have hV : V < wx.heap.size := World.block_lt_of_cell? _ _ h.var.c0
  refine ⟨hy, h.var.only o h.new.2, h.byt.only o h.ends.notB, h.only.trans o h.foot, fun b e => ?_, h.new.1, fun e => ?_⟩
  · rcases ht b e with k | k
    · exact h.foot b k
    · exact .inr (by omega)
  · rcases ht V e with k | k
    · exact h.new.2 k
    · omega
theorem InAt.put {w : World} {T : Nat → Prop} {g V : Nat} {d : Bool} {s a : Int} {p : Option Addr} {l c : Nat} {body : List Int} {stx sty : LS} {v1 v4 v6 : Value} {hs : List (Nat × List Int)} {Tx : Nat → Prop} {wx : World} (h : InAt w T g V d s a p l c body stx v1 v4 v6 hs Tx wx) (j : Nat) (x : Value) (hc : (endCells stx v1 v4 v6).setIfInBounds j x = endCells sty v1 v4 v6) (h1 : sty.took = stx.took) (h4 : sty.all = stx.all) (h6 : sty.hold = stx.hold) (hf : sty.Loose) : InAt w T g V d s a p l c body sty v1 v4 v6 hs Tx (wx.setCell ⟨g, j, none⟩ x) := by
  obtain ⟨k1, k2⟩ := h.ends.put (st' := sty) j x hc h1 h4 h6 hf
  exact h.go k1 k2 (fun b e => .inl e)
theorem FoundT.unique {hs : List (Nat × List Int)} {n : Nat} {z z' : Int} (h : FoundT hs n z) (h' : FoundT hs n z') : z = z' := by
  rcases h with ⟨i, hi, h1, h2, rfl⟩ | ⟨h1, rfl⟩ <;> rcases h' with ⟨i', hi', h1', h2', rfl⟩ | ⟨h1', rfl⟩
  · rcases Nat.lt_trichotomy i i' with c | c | c
    · exact absurd h1 (h2' i c)
    · rw [c]
    · exact absurd h1' (h2 i' c)
  · exact absurd h1 (h1' i hi)
  · exact absurd h1' (h1 i' hi')
  · rfl
theorem found_ex (hs : List (Nat × List Int)) (n : Nat) : ∃ z, FoundT hs n z := by
  by_cases h : ∃ i, i < hs.length ∧ (hs.getD i (0, [])).1 = n
  · have : ∀ m i, i < m → i < hs.length → (hs.getD i (0, [])).1 = n → ∃ j, j < hs.length ∧ (hs.getD j (0, [])).1 = n ∧ ∀ q, q < j → (hs.getD q (0, [])).1 ≠ n := by
      intro m
      induction m with
      | zero => intro i hi; omega
      | succ m ih =>
        intro i hi h1 h2
        by_cases c : ∃ q, q < i ∧ (hs.getD q (0, [])).1 = n
        · obtain ⟨q, hq, h3⟩ := c
          exact ih q (by omega) (by omega) h3
        · exact ⟨i, h1, h2, fun q hq h3 => c ⟨q, hq, h3⟩⟩
    obtain ⟨i, h1, h2⟩ := h
    obtain ⟨j, k1, k2, k3⟩ := this (i + 1) i (by omega) h1 h2
    exact ⟨_, .inl ⟨j, k1, k2, k3, rfl⟩⟩
  · exact ⟨-1, .inr ⟨fun j hj e => h ⟨j, hj, e⟩, rfl⟩⟩
/-- It is held just if it is found. -/
theorem FoundT.held {hs : List (Nat × List Int)} {n : Nat} {z : Int} (h : FoundT hs n z) : decide (z < 0) = (heldAt hs n).isNone := by
  rcases h with ⟨i, hi, h1, h2, rfl⟩ | ⟨h1, rfl⟩
  · rw [heldAt_some hi h1 h2]
    exact decide_eq_false (by omega)
  · rw [heldAt_none h1]
    rfl
theorem r11find_eq (g n : Nat) (st : LS) (v1 v4 v6 : Value) (hs : List (Nat × List Int)) (T : Nat → Prop) (z : Int) (hz : FoundT hs n z) (w : World) (h : REndV w g st v1 v4 v6 hs T) :
    Calls Try.prog 39 #[.pointer (some ⟨g, 0, none⟩), .int .i64 n] w fun e w' => e = .returned (.int .i64 z) ∧ w' = w := by
  refine (r11find_any g n st v1 v4 v6 hs T w h).mono ?_
  rintro e w' ⟨z', rfl, hz', rfl⟩
  exact ⟨by rw [hz.unique hz'], rfl⟩
/-- Is a message kept? -/
def keepB (st : LS) (n : Nat) : Bool := decide (st.all.length ≤ n) && (decide (n < st.all.length + 16) && (st.hold n).isNone)
theorem LS.keep_true {st : LS} {n : Nat} {b : List Int} (h : keepB st n = true) : st.keep n b = { st with hold := fun m => if m = n then some b else st.hold m } := by
  unfold keepB at h
  simp at h
  unfold LS.keep
  rw [if_pos h]
theorem LS.keep_false {st : LS} {n : Nat} {b : List Int} (h : keepB st n = false) : st.keep n b = st := by
  unfold LS.keep
  rw [if_neg]
  rintro ⟨h1, h2, h3⟩
  unfold keepB at h
  simp [h1, h2, h3] at h
/-- The rest of the draining: k more at most, to come to Y. -/
structure Drains (st : LS) (k : Nat) (Y : LS) : Prop where
  eq : LS.drain k st = Y
  hold : ∀ n b, st.hold n = some b → st.all.length ≤ n ∧ n < st.all.length + k
theorem Drains.stop {st Y : LS} {k : Nat} (h : Drains st k Y) (hn : st.hold st.all.length = none) : st = Y := by
  rw [← h.eq]
  cases k with
  | zero => rfl
  | succ k =>
    unfold LS.drain
    rw [hn]
theorem Drains.next {st Y : LS} {k : Nat} {b : List Int} (h : Drains st k Y) (hn : st.hold st.all.length = some b) : ∃ j, k = j + 1 ∧ Drains { st with all := st.all ++ [b], hold := fun n => if n = st.all.length then none else st.hold n } j Y := by
  cases k with
  | zero => have := h.hold _ _ hn; omega
  | succ k =>
    refine ⟨k, rfl, ?_, fun n c hc => ?_⟩
    · rw [← h.eq]
      conv => rhs; unfold LS.drain
      rw [hn]
    · simp only at hc
      split at hc
      · cases hc
      · have := h.hold n c hc
        simp
        omega
theorem Drains.start {st : LS} (hF : st.Fine) (n : Nat) (b : List Int) : Drains (st.keep n b) 16 (LS.drain 16 (st.keep n b)) := by
  refine ⟨rfl, fun m c hc => ?_⟩
  rw [(LS.keep_same st n b).2.2.2.2.2.2.2]
  unfold LS.keep at hc
  split at hc
  · rename_i q
    simp only at hc
    split at hc
    · omega
    · exact hF.hold m c hc
  · exact hF.hold m c hc
theorem grown_undraw {w w' : World} {row : Option Nat} (h : w.drew.grownBy w' row) : w.grownBy w' row := ⟨h.os, h.tape, h.output, h.size, h.block⟩
theorem held_cells (w : World) (x y : Value) (t : TypeId) (j : Nat) (u : Value) (hj : [x, y][j]? = some u) : (w.alloc (.cells #[x, y] t)).cell? ((⟨w.heap.size, 0, none⟩ : Addr).add j) = some u := by
  rw [Addr.add_lit]
  match j, hj with
  | 0, hj => simp at hj; subst hj; simp
  | 1, hj => simp at hj; subst hj; simp
/-- A message more is held. -/
theorem InAt.keep {w : World} {T : Nat → Prop} {g V S A : Nat} {d : Bool} {p : Option Addr} {l c : Nat} {body : List Int} {st : LS} {v1 v4 v6 v6' : Value} {hs : List (Nat × List Int)} {Tx : Nat → Prop} {wx w3 : World} {o : Obj} {vs : List Value} (h : InAt w T g V d S A p l c body st v1 v4 v6 hs Tx wx) (hF : st.Fine) (hkb : keepB st S = true) (hl : body.length ≤ 1048576) (hc : HeldC wx vs hs) (hvs : vs.length = hs.length * 2)
    (hown : w3.ownsRow 0 74 2 v6' (hs.length + 1) (vs ++ [.int .i64 S, .slice p l c])) (hg : (wx.alloc o).grownBy w3 v6.ownBlock) (hv : v6'.ownBlock = v6.ownBlock ∨ v6'.ownBlock = some (wx.alloc o).heap.size) :
    ∃ hs' Tx', InAt w T g V d S A p l c body (st.keep S body) v1 v4 v6' hs' Tx' (w3.setCell ⟨g, 6, none⟩ v6') := by
  have hk2 : st.hold S = none := by
    unfold keepB at hkb
    simp at hkb
    exact hkb.2.2
  have hk1 : st.all.length ≤ S ∧ S < st.all.length + 16 := by
    unfold keepB at hkb
    simp at hkb
    exact ⟨hkb.1, hkb.2.1⟩
  have ho : Only (fun b => v6.ownBlock = some b) wx w3 := (Only.of_below (T := fun b => v6.ownBlock = some b) (balloc wx o)).trans (Only.of_grown hg (fun b e => e)) (fun q e => .inl e)
  have hnb := h.ends.hold.notB
  have hhs : heldAt hs S = none := by rw [← h.ends.held]; exact hk2
  have hF' : (st.keep S body).Fine := by
    rw [LS.keep_true hkb]
    refine ⟨hF.sure, hF.sent, hF.win, hF.w16, fun n b hn => ?_, hF.told⟩
    simp only at hn
    split at hn
    · rename_i e
      rw [e]
      exact hk1
    · exact hF.hold n b hn
  have hk : ((hs ++ [(S, body)]).map Prod.fst).Nodup := by
    rw [List.map_append, List.nodup_append]
    refine ⟨h.ends.keys, by simp, fun x hx y hy e => ?_⟩
    simp at hy
    subst hy
    subst e
    obtain ⟨q, hq, e2⟩ := List.mem_map.1 hx
    exact heldAt_mem hq (by rw [e2]; exact hhs)
  have hheld : ∀ n, (st.keep S body).hold n = heldAt (hs ++ [(S, body)]) n := fun n => by
    rw [LS.keep_true hkb, heldAt_snoc hhs]
    show (if n = S then some body else st.hold n) = _
    rw [h.ends.held]
  obtain ⟨T', k1, k2, k3⟩ := h.ends.newHold (st' := st.keep S body) (hs' := hs ++ [(S, body)]) (v6' := v6') (vs := vs ++ [.int .i64 S, .slice p l c]) ho (by simpa using hown) (by
      rcases hv with q | q
      · exact .inl q
      · refine .inr (fun b e => ?_)
        have := Option.some.inj (q.symm.trans e)
        simp at this
        omega) (HeldC.append (hc.only ho hnb) (fun i hi => by
      have : i = 0 := by simpa using hi
      subst this
      exact ⟨p, l, c, rfl, rfl, h.byt.only ho hnb⟩) hvs) (LS.keep_same st S body).2.1 (LS.keep_same st S body).2.2.2.2.2.2.2 hheld hk hF'.loose (few_held hF' hheld hk) (fun e he => by
      rcases List.mem_append.1 he with q | q
      · exact h.ends.short.2.2 e q
      · simp at q
        rw [q]
        exact hl) (fun x => by rw [LS.keep_true hkb]; rfl)
  exact ⟨_, T', h.go k1 k2 k3⟩
def sliceLen (v : Value) : Nat := match v with | .slice _ n _ => n | _ => 0
theorem HeldC.one {w : World} {vs : List Value} {hs : List (Nat × List Int)} (h : HeldC w vs hs) (hl : vs.length = hs.length * 2) : ∀ u, u ∈ vs → u.oneCell' = true := fun u hu => by
  obtain ⟨j, hj, rfl⟩ := List.mem_iff_getElem.1 hu
  obtain ⟨p, n, c, e1, e2, -⟩ := h (j / 2) (by omega)
  rcases Nat.mod_two_eq_zero_or_one j with q | q
  · rw [show j / 2 * 2 = j by omega, List.getElem?_eq_getElem hj] at e1
    rw [Option.some.inj e1]
    rfl
  · rw [show j / 2 * 2 + 1 = j by omega, List.getElem?_eq_getElem hj] at e2
    rw [Option.some.inj e2]
    rfl
/-- What was held and due is got. -/
theorem InAt.got {w : World} {T : Nat → Prop} {g V S A : Nat} {d : Bool} {p : Option Addr} {l c : Nat} {body b : List Int} {st : LS} {v1 v4 v4' v6 : Value} {hs : List (Nat × List Int)} {Tx : Nat → Prop} {wx w3 : World} {o : Obj} {vs : List Value} {q : Option Addr} {m e : Nat} (h : InAt w T g V d S A p l c body st v1 v4 v6 hs Tx wx) (hc : ∀ i, i < st.all.length → ∃ p n c, vs[i]? = some (.slice p n c) ∧ BytG wx p n c (st.all.getD i [])) (hvs : vs.length = st.all.length) (hb : BytG wx q m e b) (hl : b.length ≤ 1048576) (hlen : st.all.length < 1073741824)
    (hown : w3.ownsRow 0 31 1 v4' (st.all.length + 1) (vs ++ [.slice q m e])) (hg : (wx.alloc o).grownBy w3 v4.ownBlock) (hv : v4'.ownBlock = v4.ownBlock ∨ v4'.ownBlock = some (wx.alloc o).heap.size) :
    ∃ Tx', InAt w T g V d S A p l c body { st with all := st.all ++ [b] } v1 v4' v6 hs Tx' (w3.setCell ⟨g, 4, none⟩ v4') := by
  have hf := h.ends.fine
  obtain ⟨T', k1, k2, k3⟩ := h.ends.newAll (wa := wx.alloc o) (st' := { st with all := st.all ++ [b] }) (balloc wx o) hc hvs hb hown hg hv hlen hl rfl rfl rfl ⟨hf.sure, hf.sent, hf.win, hf.w16, by have := hf.told; simp; omega⟩ (fun x => rfl)
  exact ⟨T', h.go k1 k2 k3⟩
/-- It is held no more. -/
theorem InAt.less {w : World} {T : Nat → Prop} {g V S A i : Nat} {d : Bool} {p : Option Addr} {l c : Nat} {body : List Int} {st st' : LS} {v1 v4 v6 v6' : Value} {hs : List (Nat × List Int)} {Tx : Nat → Prop} {wx w5 : World} {vs : List Value} (h : InAt w T g V d S A p l c body st v1 v4 v6 hs Tx wx) (hi : i < hs.length) (hc : HeldC wx vs hs) (hvs : vs.length = hs.length * 2) (hb : Below wx.heap.size wx w5) (hst : st' = { st with hold := fun n => if n = (hs.getD i (0, [])).1 then none else st.hold n })
    (hown : w5.ownsRow 0 74 2 v6' (i + (hs.length - (i + 1))) (vs.take (i * 2) ++ vs.drop ((i + 1) * 2))) (hv : ∀ b, v6'.ownBlock = some b → wx.heap.size ≤ b) :
    ∃ Tx', InAt w T g V d S A p l c body st' v1 v4 v6' (hs.take i ++ hs.drop (i + 1)) Tx' (w5.setCell ⟨g, 6, none⟩ v6') := by
  have hl : (hs.take i ++ hs.drop (i + 1)).length = i + (hs.length - (i + 1)) := by simp; omega
  have o0 : Only (fun _ => False) wx w5 := Only.of_below hb
  obtain ⟨T', k1, k2, k3⟩ := h.ends.newHold (st' := st') (hs' := hs.take i ++ hs.drop (i + 1)) (v6' := v6') (vs := vs.take (i * 2) ++ vs.drop ((i + 1) * 2)) (Only.of_below hb) (by rw [hl]; exact hown) (.inr hv) (HeldC.append ((hc.only o0 (fun _ e => e.elim)).take i (by omega)) ((hc.only o0 (fun _ e => e.elim)).drop (i + 1)) (by simp; omega)) (by rw [hst]) (by rw [hst]) (fun n => by
      rw [heldAt_less hi h.ends.keys, hst]
      show (if n = _ then none else st.hold n) = _
      rw [h.ends.held]) (keys_less hi h.ends.keys).1 (by rw [hst]; exact ⟨h.ends.fine.sure, h.ends.fine.sent, h.ends.fine.win, h.ends.fine.w16, h.ends.fine.told⟩) (by rw [hl]; have := h.ends.few.2.2; omega) (fun e he => by
      rcases List.mem_append.1 he with q | q
      · exact h.ends.short.2.2 e (List.mem_of_mem_take q)
      · exact h.ends.short.2.2 e (List.mem_of_mem_drop q)) (fun x => by rw [hst]; rfl)
  exact ⟨T', h.go k1 k2 k3⟩
theorem take_some {vs : List Value} {k j : Nat} {u : Value} (h : (vs.take k)[j]? = some u) : vs[j]? = some u := by
  rw [List.getElem?_take] at h
  split at h
  · exact h
  · cases h
theorem drop_cell {wx : World} {gq k : Nat} {vs : List Value} (h : ∀ j u, vs[j]? = some u → wx.cell? ((⟨gq, 0, none⟩ : Addr).add j) = some u) (j : Nat) (u : Value) (hj : (vs.drop k)[j]? = some u) : wx.cell? ((⟨gq, k, none⟩ : Addr).add j) = some u := by
  rw [List.getElem?_drop] at hj
  have := h _ u hj
  rw [Addr.add_lit] at this ⊢
  simpa using this
/-- A row that was made anew. -/
theorem row_new (w w4 wz : World) (hz : wz.heap = (w.alloc (.cells #[] 74)).heap) (hg : wz.grownBy w4 (some w.heap.size)) (h1 : wz.os = w.os := by rfl) (h2 : wz.tape = w.tape := by rfl) (h3 : wz.output = w.output := by rfl) : Below w.heap.size w w4 := by
  have hs : wz.heap.size = w.heap.size + 1 := by rw [hz]; simp
  refine ⟨hg.os.trans h1, hg.tape.trans h2, hg.output.trans h3, by have := hg.size; omega, fun k hk => ?_⟩
  rw [hg.block k (by omega) (by simp; omega), hz]
  exact heap_alloc_old w _ hk
theorem row_newer (w w4 wz : World) (hz : wz.heap = (w.alloc (.cells #[] 74)).heap) (_hg : wz.grownBy w4 (some w.heap.size)) {v : Value} (hv : v.ownBlock = some w.heap.size ∨ v.ownBlock = some wz.heap.size) : ∀ b, v.ownBlock = some b → w.heap.size ≤ b := fun b e => by
  have hs : wz.heap.size = w.heap.size + 1 := by rw [hz]; simp
  rcases hv with k | k
  · have := Option.some.inj (k.symm.trans e); omega
  · have := Option.some.inj (k.symm.trans e); omega
theorem row_then {w w4 w5 : World} {v : Value} (hb : Below w.heap.size w w4) (hg : w4.grownBy w5 v.ownBlock) (hn : ∀ b, v.ownBlock = some b → w.heap.size ≤ b) : Below w.heap.size w w5 := hb.grown hg hb.size hn
theorem row_newest {w w4 : World} {v v' : Value} (hb : Below w.heap.size w w4) (hn : ∀ b, v.ownBlock = some b → w.heap.size ≤ b) (hv : v'.ownBlock = v.ownBlock ∨ v'.ownBlock = some w4.heap.size) : ∀ b, v'.ownBlock = some b → w.heap.size ≤ b := fun b e => by
  rcases hv with k | k
  · exact hn b (k.symm.trans e)
  · have := Option.some.inj (k.symm.trans e)
    have := hb.size
    omega
end Go.Proofs.Ytjokbikelklaiaa

namespace Go.Proofs.Ytjokbikelklaiaa
open Go.RowKit

/-- At tells where an end lies, what it knows, and which blocks it may turn. -/
structure EndKept11 (At : World → Nat → LS → (Nat → Prop) → Prop) : Prop where
  foot : ∀ {w : World} {g : Nat} {st : LS} {T : Nat → Prop}, At w g st T → st.Fine ∧ (∀ b, T b → b < w.heap.size) ∧ ∀ b, T b → ¬ IsB w b
  other : ∀ {w w' : World} {g : Nat} {st : LS} {T C : Nat → Prop}, At w g st T → Only C w w' → (∀ b, C b → ¬ T b) → (∀ b, C b → ¬ IsB w b) → At w' g st T
/-- The program's end. -/
structure EndOk11 (At : World → Nat → LS → (Nat → Prop) → Prop) : Prop extends EndKept11 At where
  new : ∀ (n : Int) (w : World), -9223372036854775808 ≤ n ∧ n < 9223372036854775808 → Calls Try.prog 7 #[.int .i64 n] w fun e w' => NewT11 At n w e w'
  send : ∀ (g : Nat) (st : LS) (T : Nat → Prop) (a : Option Addr) (la ca : Nat) (body : List Int) (w : World), At w g st T → Byts w a la ca body → (a = none → ca = 0) → la ≤ 140737488355300 → Calls Try.prog 9 #[.pointer (some ⟨g, 0, none⟩), .slice a la ca] w fun e w' => e = .returned (.int .i64 (st.sendE body)) ∧ EndT11 At w g (st.send body) T w'
  tick : ∀ (g : Nat) (st : LS) (T : Nat → Prop) (w : World), At w g st T → Calls Try.prog 11 #[.pointer (some ⟨g, 0, none⟩)] w fun e w' => e = .returned (.tuple #[]) ∧ EndT11 At w g st.ticked T w'
  out : ∀ (g : Nat) (st : LS) (T : Nat → Prop) (w : World), At w g st T → Calls Try.prog 13 #[.pointer (some ⟨g, 0, none⟩)] w fun e w' => OutT11 At w g st T e w'
  inn : ∀ (g : Nat) (st : LS) (T : Nat → Prop) (a : Option Addr) (la ca : Nat) (bs : List Int) (w : World), At w g st T → Byts w a la ca bs → (a = none → ca = 0) → la ≤ 140737488355300 → st.all.length + 16 ≤ 1073741824 → Calls Try.prog 16 #[.pointer (some ⟨g, 0, none⟩), .slice a la ca] w fun e w' => InT11 At w g st T bs e w'
  next : ∀ (g : Nat) (st : LS) (T : Nat → Prop) (w : World), At w g st T → Calls Try.prog 18 #[.pointer (some ⟨g, 0, none⟩)] w fun e w' => NextT11 At w g st T e w'
  sure : ∀ (g : Nat) (st : LS) (T : Nat → Prop) (w : World), At w g st T → Calls Try.prog 20 #[.pointer (some ⟨g, 0, none⟩)] w fun e w' => e = .returned (.int .i64 (st.sure : Int)) ∧ ∃ k, w' = w.drewN k
  got : ∀ (g : Nat) (st : LS) (T : Nat → Prop) (w : World), At w g st T → Calls Try.prog 21 #[.pointer (some ⟨g, 0, none⟩)] w fun e w' => e = .returned (.int .i64 (st.all.length : Int)) ∧ ∃ k, w' = w.drewN k

theorem rend_kept : EndKept11 REnd where
  foot := fun ⟨hF, _, _, _, _, h⟩ => ⟨hF, h.old, h.notB⟩
  other := fun ⟨hF, v1, v4, v6, hs, h⟩ k hC hB => ⟨hF, v1, v4, v6, hs, h.other k hC hB⟩
theorem EndKept11.below {At : World → Nat → LS → (Nat → Prop) → Prop} (A : EndKept11 At) {w w' : World} {g : Nat} {st : LS} {T : Nat → Prop} (h : At w g st T) (hb : Below w.heap.size w w') : At w' g st T := A.other h (Only.of_below (T := fun _ => False) hb) (fun _ e => e.elim) (fun _ e => e.elim)
/-- What one end turns leaves the other one as it is. -/
theorem EndKept11.beside {At Bt : World → Nat → LS → (Nat → Prop) → Prop} (A : EndKept11 At) (B : EndKept11 Bt) {w w' : World} {g k : Nat} {st sx sy : LS} {T S T' : Nat → Prop} (hx : At w g sx T) (hy : Bt w k sy S) (hd : ∀ b, T b → ¬ S b) (hE : At w' g st T' ∧ Only T w w' ∧ ∀ b, T' b → T b ∨ w.heap.size ≤ b) : Bt w' k sy S ∧ ∀ b, T' b → ¬ S b := by
  refine ⟨B.other hy hE.2.1 (fun b e q => hd b e q) (A.foot hx).2.2, fun b e q => ?_⟩
  rcases hE.2.2 b e with c | c
  · exact hd b c q
  · have := (B.foot hy).2.1 b q
    omega
end Go.Proofs.Ytjokbikelklaiaa

/-
  Rows of messages: that are handed in, and of a call's own.
-/
import Derived.Test.YtnbdbahfekneoabW12B
import Derived.Maps.AppendAt
namespace Go.Proofs.Ytnbdbahfekneoab
open Go.ChangeShapes Go.WideShapes Go.RowKit

/-- A message, and where its lists lie. -/
structure MD where
  k : Int
  a : Int
  b : Int
  c : Int
  pi : Option Addr
  li : Nat
  ci : Nat
  pr : Option Addr
  lr : Nat
  cr : Nat
  pn : Option Addr
  ln : Nat
  cn : Nat
  ids : List Int
  rows : List Int
  nats : List (List Int)
def MD.cells (d : MD) : List Value := [.int .i64 d.k, .int .i64 d.a, .int .i64 d.b, .int .i64 d.c, .slice d.pi d.li d.ci, .slice d.pr d.lr d.cr, .slice d.pn d.ln d.cn]
def MD.In (d : MD) (w : World) : Prop := MsgIn w d.k d.a d.b d.c d.pi d.li d.ci d.pr d.lr d.cr d.pn d.ln d.cn d.ids d.rows d.nats
theorem MD.In.below {d : MD} {w w' : World} (h : d.In w) (hb : Below w.heap.size w w') : d.In w' := MsgIn.below h hb
/-- The cells of the message number i of a row. -/
def MsgCells (w : World) (a : Option Addr) (i : Nat) (d : MD) : Prop := ∃ b off, a = some ⟨b, off, none⟩ ∧ (w.cell? ⟨b, off + i * 7, none⟩ = some (.int .i64 d.k) ∧ w.cell? ⟨b, off + i * 7 + 1, none⟩ = some (.int .i64 d.a) ∧ w.cell? ⟨b, off + i * 7 + 2, none⟩ = some (.int .i64 d.b) ∧ w.cell? ⟨b, off + i * 7 + 3, none⟩ = some (.int .i64 d.c) ∧ w.cell? ⟨b, off + i * 7 + 4, none⟩ = some (.slice d.pi d.li d.ci) ∧ w.cell? ⟨b, off + i * 7 + 5, none⟩ = some (.slice d.pr d.lr d.cr) ∧ w.cell? ⟨b, off + i * 7 + 6, none⟩ = some (.slice d.pn d.ln d.cn))
/-- Messages that were handed in. -/
def MsgsIn (w : World) (a : Option Addr) (len : Nat) : Prop := ∀ i, i < len → ∃ d : MD, MsgCells w a i d ∧ d.In w
theorem MsgCells.below {w w' : World} {a : Option Addr} {i : Nat} {d : MD} (h : MsgCells w a i d) (hb : Below w.heap.size w w') : MsgCells w' a i d := by
  obtain ⟨b, off, e, c0, c1, c2, c3, c4, c5, c6⟩ := h
  exact ⟨b, off, e, bkeep hb c0 rfl, bkeep hb c1 rfl, bkeep hb c2 rfl, bkeep hb c3 rfl, bkeep hb c4 rfl, bkeep hb c5 rfl, bkeep hb c6 rfl⟩
theorem MsgsIn.below {w w' : World} {a : Option Addr} {len : Nat} (h : MsgsIn w a len) (hb : Below w.heap.size w w') : MsgsIn w' a len := fun i hi => by
  obtain ⟨d, h1, h2⟩ := h i hi
  exact ⟨d, h1.below hb, h2.below hb⟩
/-- A row of messages of a call's own. -/
def MRow (w : World) (base : Nat) (v : Value) (ds : List MD) : Prop := w.ownsRow base 31 7 v ds.length (ds.map MD.cells).flatten
theorem MRow.nil (w : World) (base : Nat) : MRow w base (.slice none 0 0) [] := World.ownsRow_nil _ _ _ _
theorem MRow.own {w : World} {base : Nat} {v : Value} {ds : List MD} (h : MRow w base v ds) : ∀ b, v.ownBlock = some b → base ≤ b ∧ b < w.heap.size ∧ ¬ IsB w b := fun b e => ⟨(World.ownsRow.lt h b e).1, (World.ownsRow.lt h b e).2, row_notB h (by decide) b e⟩
theorem MRow.kept {w w' : World} {base : Nat} {v : Value} {ds : List MD} (h : MRow w base v ds) (hk : ∀ b, v.ownBlock = some b → w'.heap[b]? = w.heap[b]?) : MRow w' base v ds := by
  refine ⟨h.1, ?_⟩
  rcases h.2 with hn | ⟨g, cap, cur, rfl, hb, hg, rest⟩
  · exact .inl hn
  · exact .inr ⟨g, cap, cur, rfl, hb, (hk g rfl).trans hg, rest⟩
theorem MRow.slice {w : World} {base : Nat} {v : Value} {ds : List MD} (h : MRow w base v ds) : ∃ a c, v = .slice a ds.length c ∧ ds.length ≤ c ∧ c ≤ maxLen := by
  rcases h.2 with ⟨rfl, hn⟩ | ⟨g, cap, cur, rfl, _, _, hnc, hcm, _⟩
  · exact ⟨none, 0, by rw [hn], by omega, Nat.zero_le _⟩
  · exact ⟨_, cap, rfl, hnc, hcm⟩
theorem cells_at : ∀ {ds : List MD} {i j : Nat} {d : MD}, ds[i]? = some d → j < 7 → ((ds.map MD.cells).flatten)[i * 7 + j]? = d.cells[j]?
  | [], i, j, d, h, _ => by simp at h
  | e :: ds, 0, j, d, h, hj => by
    simp at h
    subst h
    rw [List.map_cons, List.flatten_cons, Nat.zero_mul, Nat.zero_add, List.getElem?_append_left (by simpa [MD.cells] using hj)]
  | e :: ds, i + 1, j, d, h, hj => by
    have h2 : ds[i]? = some d := by simpa using h
    rw [List.map_cons, List.flatten_cons, List.getElem?_append_right (by simp [MD.cells]; omega), ← cells_at h2 hj]
    congr 1
    simp [MD.cells]
    omega
theorem MRow.at {w : World} {base : Nat} {v : Value} {ds : List MD} (h : MRow w base v ds) {i : Nat} {d : MD} (hd : ds[i]? = some d) : ∃ a c, v = .slice a ds.length c ∧ MsgCells w a i d := by
  have hi : i < ds.length := (List.getElem?_eq_some_iff.1 hd).1
  rcases h.2 with ⟨rfl, hn⟩ | ⟨g, cap, cur, rfl, _, hg, _, _, _, htk⟩
  · omega
  · refine ⟨_, cap, rfl, g, 0, rfl, ?_⟩
    have key : ∀ j, j < 7 → w.cell? ⟨g, 0 + i * 7 + j, none⟩ = d.cells[j]? := fun j hj => by
      rw [cell_of_row w g _ cur _ _ hg, Nat.zero_add, ← cells_at hd hj, ← htk, List.getElem?_take, if_pos (by omega)]
      simp
    exact ⟨by simpa [MD.cells] using key 0 (by decide), by simpa [MD.cells] using key 1 (by decide), by simpa [MD.cells] using key 2 (by decide), by simpa [MD.cells] using key 3 (by decide), by simpa [MD.cells] using key 4 (by decide), by simpa [MD.cells] using key 5 (by decide), by simpa [MD.cells] using key 6 (by decide)⟩
theorem Try.infoMs : (Try.prog.info? 31).map (fun i => (i.zero, i.size, i.bytes)) = some (some (.agg #[.int .i64 0, .int .i64 0, .int .i64 0, .int .i64 0, .slice none 0 0, .slice none 0 0, .slice none 0 0]), 7, 104) := by kernel_rfl
/-- One message more. -/
theorem wpList_appMsg (w : World) {ops : Array Oper} {rest : List Oper} {o : Oper} {a : Act} {Q : Exit → Act → World → Prop} (hgd : o.guard = none) (s x : Operand) (t : TypeId)
    (ho : o.op = .call { callee := .builtin .append, args := #[s, x], argTypes := #[t, t] }) (ht : Try.prog.underlying t = some (.slice 31))
    (base : Nat) (v : Value) (ds : List MD) (hs : a.eval s = v) (hown : MRow w base v ds) (g1 : Nat) (d : MD) (hx : a.eval x = .slice (some ⟨g1, 0, none⟩) 1 1) (hc : MsgCells w (some ⟨g1, 0, none⟩) 0 d)
    (hlen : ds.length < 1000000) (hbase : base ≤ w.heap.size)
    (h : ∀ v' w', MRow w' base v' (ds ++ [d]) → w.grownBy w' v.ownBlock → (v'.ownBlock = v.ownBlock ∨ v'.ownBlock = some w.heap.size) → wpList Try.prog ops Q rest (a.put o.dst v') w') : wpList Try.prog ops Q (o :: rest) a w := by
  obtain ⟨i0, hi, hz0, hz1, hz2⟩ := info_parts Try.infoMs
  obtain ⟨b, off, e, c0, c1, c2, c3, c4, c5, c6⟩ := hc
  cases e
  simp only [Nat.zero_mul, Nat.add_zero, Nat.zero_add] at c0 c1 c2 c3 c4 c5 c6
  refine wpList_append_own_at w hgd s x t ho base 31 i0 _ 7 104 ht hi hz0 hz1 hz2 rfl (by decide) v ds.length _ hs hown ⟨g1, 0, none⟩ 1 1 d.cells hx rfl ?_ ?_ ?_ ?_ hbase ?_
  · intro j u hj
    rw [Addr.add_lit, Nat.zero_add]
    match j, hj with
    | 0, hj => cases hj; exact c0
    | 1, hj => cases hj; exact c1
    | 2, hj => cases hj; exact c2
    | 3, hj => cases hj; exact c3
    | 4, hj => cases hj; exact c4
    | 5, hj => cases hj; exact c5
    | 6, hj => cases hj; exact c6
    | j + 7, hj => simp [MD.cells] at hj
  · intro u hu
    simp [MD.cells] at hu
    rcases hu with rfl | rfl | rfl | rfl | rfl | rfl | rfl <;> rfl
  · unfold maxLen; omega
  · omega
  · intro v' w' h2 h3 _ h5
    refine h v' w' ?_ h3 h5
    unfold MRow
    have e : (ds ++ [d]).length = ds.length + 1 := by simp
    rw [e, List.map_append, List.flatten_append]
    simpa using h2
section
variable {H : Type} {enc : TypeId × Value → H} {W : World} {m : Nat} {c : Value} {x : DataW H × List MemPlace}
theorem weights_all12 {P : Program} {e : TypeId} {d : DataW H} {n : Nat} (hn : n ∈ d.weights P e) : ∀ {l : List (DataW H)}, d ∈ l → n ∈ DataW.weightsAll P e l
  | [], h => by cases h
  | x :: l, h => by
    unfold DataW.weightsAll
    rcases List.mem_cons.1 h with rfl | h
    · exact List.mem_append.2 (.inl hn)
    · exact List.mem_append.2 (.inr (weights_all12 hn h))
set_option maxRecDepth 100000 in
/-- Messages among the arguments. -/
theorem open_msgs12 (hf : DataW.trod enc Try.prog W 0 (fun _ => true) true m 22 [c] = some x) (hw : ∀ n, n ∈ x.1.weights Try.prog 22 → n ≤ reachBytes) : ∃ a len cap, c = .slice a len cap ∧ MsgsIn W a len ∧ len ≤ cap ∧ cap ≤ maxLen := by
  rcases DataW.trod_slice Try.underlying22 hf with ⟨hcs, _⟩ | ⟨a, len, cap, elems, rest, n, _, hcs, hxe, _, hl, hm, hlen, hel, _⟩
  · simp at hcs
    exact ⟨none, 0, 0, hcs, fun i hi => absurd hi (by omega), Nat.le_refl _, Nat.zero_le _⟩
  · simp at hcs
    refine ⟨some a, len, cap, hcs, fun i hi => ?_, hl, hm⟩
    have hce : Try.prog.cellsOf 31 = 7 := by kernel_rfl
    have h := hel i hi
    rw [hce, List.getElem?_eq_getElem (by omega)] at h
    simp only [Option.bind_eq_some_iff] at h
    obtain ⟨cs, h1, h2⟩ := h
    obtain ⟨_, h3, h4⟩ := World.cells?_some h1
    obtain ⟨k, q, b, d, pi, li, ci, pr, lr, cr, pn, ln, cn, ids, rows, nats, rfl, hM⟩ := open_msgc h2 (fun n hn => hw n (by
      rw [hxe]
      unfold DataW.weights
      rw [Try.underlying22]
      exact List.mem_cons.2 (.inr (List.mem_append.2 (.inl (weights_all12 hn (List.mem_map.2 ⟨elems[i], List.getElem_mem _, rfl⟩)))))))
    have g0 := h4 0 (by decide)
    have g1 := h4 1 (by decide)
    have g2 := h4 2 (by decide)
    have g3 := h4 3 (by decide)
    have g4 := h4 4 (by decide)
    have g5 := h4 5 (by decide)
    have g6 := h4 6 (by decide)
    have hz := hel 0 (by omega)
    rw [hce, List.getElem?_eq_getElem (by omega)] at hz
    simp only [Option.bind_eq_some_iff] at hz
    obtain ⟨cz, z1, z2⟩ := hz
    obtain ⟨_, z3, z4⟩ := World.cells?_some z1
    have z5 := z4 0 (by decide)
    obtain ⟨ab, ao, spot⟩ := a
    have hspot : spot = none := by
      obtain ⟨k', q', b', d', pi', li', ci', pr', lr', cr', pn', ln', cn', ids', rows', nats', rfl, -⟩ := open_msgc z2 (fun n hn => hw n (by
        rw [hxe]
        unfold DataW.weights
        rw [Try.underlying22]
        exact List.mem_cons.2 (.inr (List.mem_append.2 (.inl (weights_all12 hn (List.mem_map.2 ⟨elems[0], List.getElem_mem _, rfl⟩)))))))
      have := World.cell?_spot z5
      simpa [Addr.add] using this
    subst hspot
    simp only [Addr.add_lit] at g0 g1 g2 g3 g4 g5 g6
    exact ⟨⟨k, q, b, d, pi, li, ci, pr, lr, cr, pn, ln, cn, ids, rows, nats⟩, ⟨ab, ao, rfl, by simpa using g0, by simpa using g1, by simpa using g2, by simpa using g3, by simpa using g4, by simpa using g5, by simpa using g6⟩, hM⟩
end
/-- Truth values that were handed in. -/
def BoolsIn (w : World) (a : Option Addr) (len : Nat) (qs : List Bool) : Prop := qs.length = len ∧ (0 < len → ∃ b off, a = some ⟨b, off, none⟩ ∧ ∀ i, i < len → w.cell? ⟨b, off + i, none⟩ = some (.bool (qs.getD i false)))
theorem BoolsIn.below {w w' : World} {a : Option Addr} {len : Nat} {qs : List Bool} (h : BoolsIn w a len qs) (hb : Below w.heap.size w w') : BoolsIn w' a len qs := ⟨h.1, fun hp => by
  obtain ⟨b, off, e, hc⟩ := h.2 hp
  exact ⟨b, off, e, fun i hi => bkeep hb (hc i hi) rfl⟩⟩
section
variable {H : Type} {enc : TypeId × Value → H} {W : World} {m : Nat} {c : Value} {x : DataW H × List MemPlace}
set_option maxRecDepth 100000 in
theorem open_bools12 (hf : DataW.trod enc Try.prog W 0 (fun _ => true) true m 23 [c] = some x) (hw : ∀ n, n ∈ x.1.weights Try.prog 23 → n ≤ reachBytes) : ∃ a len cap qs, c = .slice a len cap ∧ BoolsIn W a len qs ∧ len ≤ cap ∧ cap ≤ maxLen ∧ len ≤ 140737488355328 := by
  rcases DataW.trod_slice Try.underlying23 hf with ⟨hcs, _⟩ | ⟨a, len, cap, elems, rest, n, _, hcs, hxe, _, hl, hm, hlen, hel, _⟩
  · simp at hcs
    exact ⟨none, 0, 0, [], hcs, ⟨rfl, fun h => absurd h (by omega)⟩, Nat.le_refl _, Nat.zero_le _, Nat.zero_le _⟩
  · simp at hcs
    have hce : Try.prog.cellsOf 4 = 1 := by kernel_rfl
    have hsize : len ≤ 140737488355328 := by
      have h := hw ((elems.length + rest.length) * Try.prog.bytesOf 4) (by
        rw [hxe]
        unfold DataW.weights
        rw [Try.underlying23]
        exact List.mem_cons.2 (.inl (by simp)))
      rw [show Try.prog.bytesOf 4 = 1 by kernel_rfl] at h
      unfold reachBytes at h
      omega
    have hone : ∀ i, i < len → ∃ q, W.cell? (a.add i) = some (.bool q) := fun i hi => by
      have h := hel i hi
      rw [hce, List.getElem?_eq_getElem (by omega), Nat.mul_one] at h
      simp only [Option.bind_eq_some_iff] at h
      obtain ⟨cs, h1, h2⟩ := h
      obtain ⟨_, h3, h4⟩ := World.cells?_some h1
      obtain ⟨q, rfl, _⟩ := DataW.trod_bool Try.underlying4 h2
      have h5 := h4 0 (by decide)
      have e : (a.add i).add 0 = a.add i := by unfold Addr.add; split <;> simp_all
      rw [e] at h5
      exact ⟨q, by simpa using h5⟩
    refine ⟨some a, len, cap, (List.range len).map (fun i => match W.cell? (a.add i) with | some (.bool q) => q | _ => false), hcs, ⟨by simp, fun hp => ?_⟩, hl, hm, hsize⟩
    obtain ⟨b, off, spot⟩ := a
    have hspot : spot = none := by
      obtain ⟨q, h5⟩ := hone 0 hp
      simpa [Addr.add] using World.cell?_spot h5
    subst hspot
    refine ⟨b, off, rfl, fun i hi => ?_⟩
    obtain ⟨q, h5⟩ := hone i hi
    have e : ((List.range len).map (fun i => match W.cell? ((⟨b, off, none⟩ : Addr).add i) with | some (.bool q) => q | _ => false)).getD i false = q := by
      simp [List.getD, hi, h5]
    rw [e]
    rw [Addr.add_lit] at h5
    exact h5
end
end Go.Proofs.Ytnbdbahfekneoab

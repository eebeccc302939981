/-
  The program's tables: rows of whole numbers that are made; slices.Clone, binsAt, placesOf.
  The program's Take, its statements. Written by mk/x15g.py.
  The program's Take, its loop's statements. Written by mk/x15g.py.
  The program's Take, its loop. Written by mk/x15g.py.
  The program's Take, the whole. Written by mk/x15g.py.
-/
import Derived.Test.YtaiikhbfnfcalaaBX15A
import Derived.Test.YtaiikhbfnfcalaaRef15S
import Derived.Test.YtaiikhbfnfcalaaR15T
import Derived.Deep.RegionHeld3
namespace Go.Proofs.Ytaiikhbfnfcalaa
open Go.RowKit

/-- Block g holds these whole numbers at its head, and may be written. -/
def IBlk (w : World) (g : Nat) (L : List Int) : Prop := ∃ cur : Array Value, w.heap[g]? = some (.cells cur 3 (0, 0)) ∧ cur.toList.take L.length = L.map (Value.int .i64)
theorem IBlk.cell {w : World} {g : Nat} {L : List Int} (h : IBlk w g L) {j : Nat} (hj : j < L.length) : w.cell? ⟨g, j, none⟩ = some (.int .i64 (L.getD j 0)) := by
  obtain ⟨cur, h1, h2⟩ := h
  rw [cell_of_row w g j _ _ _ h1]
  have h3 : (cur.toList.take L.length)[j]? = (L.map (Value.int .i64))[j]? := by rw [h2]
  rw [List.getElem?_take, if_pos hj] at h3
  rw [← Array.getElem?_toList, h3]
  simp [List.getD, hj]
theorem IBlk.frozen {w : World} {g : Nat} {L : List Int} (h : IBlk w g L) (j : Nat) : w.frozen? ⟨g, j, none⟩ = false := by
  obtain ⟨cur, h1, _⟩ := h
  exact frozen_of_row w g j _ _ h1
theorem IBlk.lt {w : World} {g : Nat} {L : List Int} (h : IBlk w g L) : g < w.heap.size := by
  obtain ⟨cur, h1, _⟩ := h
  exact (Array.getElem?_eq_some_iff.1 h1).1
theorem IBlk.set {w : World} {g : Nat} {L : List Int} (h : IBlk w g L) (j : Nat) (x : Int) : IBlk (w.setCell ⟨g, j, none⟩ (.int .i64 x)) g (L.set j x) := by
  obtain ⟨cur, h1, h2⟩ := h
  refine ⟨cur.setIfInBounds j (.int .i64 x), heap_setCell_same w g j _ _ (.int .i64 x) h1, ?_⟩
  rw [Array.toList_setIfInBounds, List.length_set, List.take_set, h2, List.map_set]
theorem IBlk.lsts {w : World} {g n : Nat} {L : List Int} (h : IBlk w g L) (hd : ∀ x, x ∈ L → -9223372036854775808 ≤ x ∧ x < 9223372036854775808) (hl : L.length = n) (hn : n ≤ 1000000) : Lsts w (some ⟨g, 0, none⟩) n n L :=
  ⟨hl, Nat.le_refl _, by unfold maxLen; omega, fun _ => ⟨g, 0, rfl, fun i hi => by rw [Nat.zero_add]; exact h.cell (by omega)⟩, hd⟩
theorem wpList_mkI (w : World) {ops : Array Oper} {rest : List Oper} {o : Oper} {a : Act} {Q : Exit → Act → World → Prop}
    (hg : o.guard = none) (l c : Operand) (t : TypeId) (hop : o.op = Op.makeSlice t l c) (ht : Try.prog.underlying t = some (.slice 3))
    (kl kc : IntKind) (L C : Int) (n : Nat) (hl : a.eval l = .int kl L) (hc : a.eval c = .int kc C) (hL : L = (n : Int)) (hC : C = (n : Int)) (hn : n ≤ 1000000)
    (hK : ∀ w', IBlk w' w.heap.size (noughts n) → Below w.heap.size w w' → w'.heap.size = w.heap.size + 1 → wpList Try.prog ops Q rest (a.put o.dst (.slice (some ⟨w.heap.size, 0, none⟩) n n)) w') :
    wpList Try.prog ops Q (o :: rest) a w := by
  obtain ⟨i0, hi, hz0, hz1, hz2⟩ := info_parts Try.infoI
  refine wpList_plain hg fun K hK' => ?_
  subst hL
  subst hC
  have hrun := run_make (P := Try.prog) w t 3 i0 (.int .i64 0) ht hi hz0 kl kc n n (by omega) (Int.le_refl _) (by rw [hz2]; omega) (by omega)
  simp only [Int.toNat_natCast] at hrun
  unfold Oper.wp
  simp [execOp, hop, hl, hc, hrun, Result.andThen]
  refine hK' _ _ (hK _ ?_ ((Below.refl _ _).alloc (Nat.le_refl _) _) (by simp))
  have e : (madeCells (Value.int .i64 0).cells (n * i0.size)) = ((List.replicate n (0 : Int)).map (Value.int .i64)).toArray := by
    apply Array.toList_inj.1
    have := toList_madeCells_one (.int .i64 0) n
    rw [hz1, Nat.mul_one]
    simpa [Value.cells] using this
  refine ⟨_, heap_alloc_new w _, ?_⟩
  rw [e]
  simp [noughts]
theorem getD_set15 {us : List Int} {k j : Nat} {x : Int} (hk : k < us.length) : (us.set k x).getD j 0 = if j = k then x else us.getD j 0 := by
  unfold List.getD
  rw [List.getElem?_set]
  by_cases c : k = j
  · subst c
    simp [hk]
  · rw [if_neg c, if_neg (fun e => c e.symm)]
theorem eq_all15 {xs ys : List Int} (hl : xs.length = ys.length) (h : ∀ j, j < xs.length → xs.getD j 0 = ys.getD j 0) : xs = ys := by
  refine List.ext_getElem hl (fun i h1 h2 => ?_)
  have := h i h1
  simpa [List.getD, h1, h2] using this
/-- A row of whole numbers that is new. -/
def NewT15 (xs : List Int) (w : World) (e : Ending) (w' : World) : Prop := ∃ a l c, e = .returned (.slice a l c) ∧ Lsts w' a l c xs ∧ (∀ ad, a = some ad → w.heap.size ≤ ad.block ∧ ad.block < w'.heap.size) ∧ Below w.heap.size w w'
theorem wpList_appZ (w : World) {ops : Array Oper} {rest : List Oper} {o : Oper} {a : Act} {Q : Exit → Act → World → Prop} (hgd : o.guard = none) (s x : Operand)
    (ho : o.op = .call { callee := .builtin .append, args := #[s, x], argTypes := #[22, 22] })
    (b : Nat) (hs : a.eval s = .slice (some ⟨b, 0, none⟩) 0 0) (p : Option Addr) (l c : Nat) (ys : List Int) (hx : a.eval x = .slice p l c) (hL : Lsts w p l c ys) (hl : l < 1000000)
    (h : ∀ a' c' w', Lsts w' a' l c' ys → Below w.heap.size w w' → (∀ ad, a' = some ad → ad.block = b ∨ w.heap.size ≤ ad.block) → (∀ ad, a' = some ad → ad.block = b ∨ ad.block < w'.heap.size) → wpList Try.prog ops Q rest (a.put o.dst (.slice a' l c')) w') : wpList Try.prog ops Q (o :: rest) a w := by
  obtain ⟨a', c', w', hr, h2, h3, h4, h5⟩ := run_appZ w o.type b hL hl
  exact Lib.wpList_append_run w hgd s x _ _ ho _ _ hs hx _ w' hr (h a' c' w' h2 h3 h4 h5)
set_option maxHeartbeats 800000 in
theorem clone15_any (a : Option Addr) (l c : Nat) (xs : List Int) (w : World) (h : Lsts w a l c xs) (hl : l < 1000000) : Calls Try.prog 31 #[.slice a l c] w fun e w' => NewT15 xs w e w' := by
  cases a with
  | none =>
    have hm : l = 0 := by
      rcases Nat.eq_zero_or_pos l with h0 | h0
      · exact h0
      · obtain ⟨b, off, e, _⟩ := h.cells h0; cases e
    subst hm
    have e : xs = [] := List.eq_nil_of_length_eq_zero h.hlen
    subst e
    have heq := fun wx => Lib.run_eql_slice_nil (P := Try.prog) wx 22 3 none 0 c 0 0 Try.underlying22
    go_enter Try.func31, Try.ntmps31
    go_wp2
    go_ret
    exact ⟨none, 0, 0, rfl, Lsts.nil _, fun _ e => (by cases e), Below.refl _ _⟩
  | some x =>
    have heq := fun wx => Lib.run_eql_slice_nil (P := Try.prog) wx 22 3 (some x) l c 0 0 Try.underlying22
    have hb0 := balloc w (.cells #[] 3)
    have h1 := h.below hb0
    clear h
    go_enter Try.func31, Try.ntmps31
    go_wp2_with (at_builtin; refine wpList_appZ _ rfl _ _ rfl w.heap.size rfl (some x) l c xs rfl h1 hl ?_)
    intro a' c' w2 k1 k2 k3 k4
    have HO : Hid (Lsts w2 a' l c' xs ∧ (∀ ad, a' = some ad → w.heap.size ≤ ad.block ∧ ad.block < w2.heap.size) ∧ Below w.heap.size w w2) := ⟨k1, fun ad e => (by
      have z1 := k3 ad e
      have z2 := k4 ad e
      have z3 := k2.size
      simp at z1 z3
      omega), bthen hb0 (by simpa using k2)⟩
    clear h1 hb0 k1 k2 k3 k4
    go_wp2
    go_ret
    exact ⟨_, _, _, rfl, HO.out⟩
/-- A column's numbers at some places. -/
def atPl15 (L : List Int) (ps : List Nat) : List Int := ps.map fun k => L.getD k 0
set_option maxRecDepth 20000 in
set_option maxHeartbeats 3200000 in
theorem x15binsAt_any (a : Option Addr) (l c : Nat) (ps : List Nat) (p : Option Addr) (n q : Nat) (L : List Int) (w : World) (hC : Lsts w p n q L) (h : Lsts w a l c (ints ps)) (hl : l ≤ 256) (hp : ∀ k, k ∈ ps → k < n) : Calls Try.prog 32 #[.slice p n q, .slice a l c] w fun e w' => NewT15 (atPl15 L ps) w e w' := by
  have hm := h.hmax
  have hc := h.hcap
  unfold maxLen at hm
  have hm2 := hC.hmax
  have hc2 := hC.hcap
  unfold maxLen at hm2
  have HW : Hid (∀ x, x ∈ L → -9223372036854775808 ≤ x ∧ x < 9223372036854775808) := hC.word
  have HN : Hid (ps.length = l ∧ (∀ k, k ∈ ps → k < n) ∧ L.length = n) := ⟨by rw [← h.hlen, ints_len], hp, hC.hlen⟩
  have HC : Hid (∀ wx, Below w.heap.size w wx → Lsts wx p n q L) := fun wx hb => hC.below hb
  have HP : Hid (∀ wx, Below w.heap.size w wx → Lsts wx a l c (ints ps)) := fun wx hb => h.below hb
  have hl0 : (l : Int) = (l : Int) := rfl
  have hnl : ¬ (l : Int) < 0 := by omega
  clear h hC hp
  go_enter Try.func32, Try.ntmps32
  go_wp2_with (at_make; refine wpList_mkI _ rfl _ _ 22 rfl Try.underlying22 .i64 .i64 _ _ l rfl rfl (by first | rfl | omega) (by first | rfl | omega) (by omega) ?_)
  intro w1 k1 k2 k3
  obtain ⟨G, hG⟩ : ∃ G, G = w.heap.size := ⟨_, rfl⟩
  rw [← hG] at k1
  rw [← hG]
  have HG : Hid (G = w.heap.size) := hG
  have HI : Hid (IBlk w1 G (noughts l) ∧ Below w.heap.size w w1) := ⟨k1, k2⟩
  clear hG k1 k2 k3
  go_wp2
  go_loopw [13] (fun v13 wr => ∃ k : Nat, k ≤ l ∧ v13 = .int .i64 k ∧ ∃ us : List Int, us.length = l ∧ IBlk wr G us ∧ Hid (∀ j, j < k → us.getD j 0 = (atPl15 L ps).getD j 0) ∧ Hid (Below w.heap.size w wr)) (fun v13 _ => l - (intOf v13).toNat)
  case atStart => exact ⟨0, by omega, rfl, noughts l, by simp [noughts], HI.out.1, fun j hj => absurd hj (Nat.not_lt_zero j), HI.out.2⟩
  case round =>
    obtain ⟨k, hk, rfl, us, hus, hI, HE, HB⟩ := hrel
    by_cases hlt : k < l
    · have hlti : (k : Int) < (l : Int) := by omega
      obtain ⟨b1, o1, rfl, c1⟩ := (HP.out _ HB.out).cells (by omega)
      replace c1 := c1 k hlt
      have hkp : k < ps.length := by rw [HN.out.1]; exact hlt
      obtain ⟨x, hx⟩ : ∃ x, x = ps.getD k 0 := ⟨_, rfl⟩
      have hix : (ints ps).getD k 0 = (x : Int) := by rw [hx]; simp [ints, List.getD, List.getElem?_eq_getElem hkp]
      have hxm : x ∈ ps := by rw [hx]; simp [List.getD, List.getElem?_eq_getElem hkp]
      have hxn : x < n := HN.out.2.1 x hxm
      rw [hix] at c1
      have hxni : (x : Int) < (n : Int) := by omega
      obtain ⟨b2, o2, rfl, c2⟩ := (HC.out _ HB.out).cells (by omega)
      replace c2 := c2 x hxn
      obtain ⟨y, hy⟩ : ∃ y, y = L.getD x 0 := ⟨_, rfl⟩
      rw [← hy] at c2
      have hat : (atPl15 L ps).getD k 0 = y := by rw [hy, hx]; simp [atPl15, List.getD, List.getElem?_eq_getElem hkp]
      have cg := hI.cell (j := k) (by omega)
      have fg := hI.frozen k
      have HS : Hid (IBlk (wr.setCell ⟨G, k, none⟩ (.int .i64 y)) G (us.set k y)) := hI.set k y
      have HE2 : Hid (∀ j, j < k + 1 → (us.set k y).getD j 0 = (atPl15 L ps).getD j 0) := fun j hj => by
        rw [getD_set15 (by omega)]
        by_cases e : j = k
        · rw [if_pos e, e, hat]
        · rw [if_neg e]
          exact HE.out j (by omega)
      have HB2 : Hid (Below w.heap.size w (wr.setCell ⟨G, k, none⟩ (.int .i64 y))) := HB.out.setCell (p := ⟨G, k, none⟩) (by rw [← HG.out]; exact Nat.le_refl _) _
      clear hI HE hkp hx hix hxm hy hat HB
      go_wp2
      go_roundw
      case rel => exact ⟨k + 1, by omega, by go_num, us.set k y, by simpa using hus, HS.out, HE2, HB2⟩
      case measure => simp [intOf]; omega
    · obtain rfl : k = l := by omega
      have HF : Hid (NewT15 (atPl15 L ps) w (.returned (.slice (some ⟨G, 0, none⟩) k k)) wr) := by
        have e : us = atPl15 L ps := eq_all15 (by rw [hus, atPl15, List.length_map, HN.out.1]) (fun j hj => HE.out j (by omega))
        subst e
        refine ⟨_, _, _, rfl, hI.lsts (fun x hx => ?_) hus (by omega), fun ad e => (by cases e; exact ⟨Nat.le_of_eq HG.out.symm, hI.lt⟩), HB.out⟩
        unfold atPl15 at hx
        obtain ⟨j, hj, rfl⟩ := List.mem_map.1 hx
        exact HW.out _ (mem_getD (by rw [HN.out.2.2]; exact HN.out.2.1 j hj))
      clear hI HE HB
      go_wp2
      go_ret
      exact HF.out
theorem run_makeMapI (n : Int) (w : World) : (Instr.makeMap 50 (some (.int .i64 n))).run Try.prog w = .ok (.map (some w.heap.size)) (w.alloc (.map #[] 0)) := by
  simp [Instr.makeMap, run_underlying Try.underlying50, asInt, asIntOf, Result.andThen]
theorem not_take15 {ys : List Int} (h : ys.Nodup) {k : Nat} (hk : k < ys.length) : ys.getD k 0 ∉ ys.take k := by
  intro q
  obtain ⟨j, hj, e⟩ := List.getElem_of_mem q
  rw [List.length_take] at hj
  rw [List.getElem_take] at e
  have := (List.pairwise_iff_getElem.1 h) j k (by omega) hk (by omega)
  apply this
  rw [e]
  simp [List.getD, List.getElem?_eq_getElem hk]
/-- The places at which some ids stand. -/
def PlcT15 (xs ys : List Int) (w : World) (e : Ending) (w' : World) : Prop := ∃ a l c b, e = .returned (.tuple #[.slice a l c, .bool b]) ∧ (b = true ↔ ∀ x, x ∈ xs → x ∈ ys) ∧ (b = true → Lsts w' a l c (ints (xs.map (idx ys)))) ∧ Below w.heap.size w w'
set_option maxRecDepth 20000 in
set_option maxHeartbeats 6400000 in
theorem x15places_any (a : Option Addr) (l c : Nat) (xs : List Int) (p : Option Addr) (n q : Nat) (ys : List Int) (w : World) (h : Lsts w a l c xs) (hY : Lsts w p n q ys) (hl : l ≤ 256) (hn : n ≤ 256) (hnd : ys.Nodup) : Calls Try.prog 30 #[.slice a l c, .slice p n q] w fun e w' => PlcT15 xs ys w e w' := by
  have hm := h.hmax
  have hc := h.hcap
  unfold maxLen at hm
  have hm2 := hY.hmax
  have hc2 := hY.hcap
  unfold maxLen at hm2
  have HN : Hid (xs.length = l ∧ ys.length = n ∧ ys.Nodup ∧ (∀ x, x ∈ xs → -9223372036854775808 ≤ x ∧ x < 9223372036854775808) ∧ (∀ x, x ∈ ys → -9223372036854775808 ≤ x ∧ x < 9223372036854775808)) := ⟨h.hlen, hY.hlen, hnd, h.word, hY.word⟩
  have HX : Hid (∀ wx, Below w.heap.size w wx → Lsts wx a l c xs) := fun wx hb => h.below hb
  have HY : Hid (∀ wx, Below w.heap.size w wx → Lsts wx p n q ys) := fun wx hb => hY.below hb
  have HB0 : Hid (Below w.heap.size w (w.alloc (.map #[] 0))) := balloc _ _
  have HM0 : Hid (IntM (w.alloc (.map #[] 0)) w.heap.size 0 (plc15 [])) := (IntM.new w).congr (fun k => by simp [plc15])
  obtain ⟨G, hG⟩ : ∃ G, G = w.heap.size := ⟨_, rfl⟩
  have HG : Hid (G = w.heap.size) := hG
  obtain ⟨W, hW⟩ : ∃ W, W = w.alloc (.map #[] 0) := ⟨_, rfl⟩
  rw [← hG, ← hW] at HM0
  rw [← hW] at HB0
  have HW : Hid (W = w.alloc (.map #[] 0)) := hW
  have hmm := run_makeMapI
  clear h hY hnd hG hW
  go_enter Try.func30, Try.ntmps30
  go_upto_region 2 with fail
  rw [← HW.out, ← HG.out]
  clear HW
  go_wp2
  go_loopw [19] (fun v19 wr => ∃ k : Nat, k ≤ n ∧ v19 = .int .i64 k ∧ Hid ((∃ N, N ≤ k ∧ IntM wr G N (plc15 (ys.take k))) ∧ Below w.heap.size w wr)) (fun v19 _ => n - (intOf v19).toNat)
  case atStart => exact ⟨0, by omega, rfl, ⟨0, Nat.zero_le _, HM0.out⟩, HB0.out⟩
  case round =>
    obtain ⟨k, hk, rfl, HK⟩ := hrel
    by_cases hlt : k < n
    · have hlti : (k : Int) < (n : Int) := by omega
      obtain ⟨b1, o1, rfl, c1⟩ := (HY.out _ HK.out.2).cells (by omega)
      replace c1 := c1 k hlt
      have hky : k < ys.length := by rw [HN.out.2.1]; exact hlt
      obtain ⟨⟨N, hN, hM⟩, hB⟩ := HK.out
      have hnt := not_take15 HN.out.2.2.1 hky
      have htk := take_snoc15 hky
      obtain ⟨x, hx⟩ : ∃ x, x = ys.getD k 0 := ⟨_, rfl⟩
      have hxw := HN.out.2.2.2.2 x (by rw [hx]; exact mem_getD hky)
      rw [← hx] at c1 hnt htk
      obtain ⟨w2, hput, hgr, hM2⟩ := hM.put hxw (by omega) (k : Int)
      have hlk : (ys.take k).length = k := by rw [List.length_take]; omega
      have HN2 : Hid ((∃ N, N ≤ k + 1 ∧ IntM w2 G N (plc15 (ys.take (k + 1)))) ∧ Below w.heap.size w w2) := by
        refine ⟨⟨N + 1, by omega, hM2.congr (fun z => by rw [htk, plc_more15 _ _ _ hnt, hlk])⟩, grown_low15 hB hgr (Nat.le_refl _) (by rw [HG.out]; exact Nat.le_refl _)⟩
      clear HK hN hM hB hnt htk hky hx hxw hgr hM2 hlk
      go_wp2
      go_roundw
      case rel => exact ⟨k + 1, by omega, by go_num, HN2⟩
      case measure => simp [intOf]; omega
    · obtain rfl : k = n := by omega
      have HM : Hid (∃ N, ∀ wx, Below wr.heap.size wr wx → IntM wx G N (plc15 ys)) := by
        obtain ⟨⟨N, h1, h2⟩, h3⟩ := HK.out
        rw [← HN.out.2.1, List.take_length] at h2
        exact ⟨N, fun wx hb => h2.below hb⟩
      have HB1 : Hid (Below w.heap.size w wr) := HK.out.2
      clear HK
      obtain ⟨W1, hW1⟩ : ∃ W1, W1 = wr := ⟨_, rfl⟩
      subst hW1
      go_wp2_with (at_make; refine wpList_mkI _ rfl _ _ 22 rfl Try.underlying22 .i64 .i64 _ _ l rfl rfl (by first | rfl | omega) (by first | rfl | omega) (by omega) ?_)
      intro w2 k1 k2 k3
      obtain ⟨S, hS⟩ : ∃ S, S = W1.heap.size := ⟨_, rfl⟩
      rw [← hS] at k1
      rw [← hS]
      have HS : Hid (S = W1.heap.size) := hS
      have HI : Hid (IBlk w2 S (noughts l) ∧ Below W1.heap.size W1 w2) := ⟨k1, k2⟩
      clear hS k1 k2 k3
      go_wp2
      go_loopw [33] (fun v33 wr => ∃ k : Nat, k ≤ l ∧ v33 = .int .i64 k ∧ ∃ us : List Int, us.length = l ∧ IBlk wr S us ∧ Hid (∀ j, j < k → xs.getD j 0 ∈ ys ∧ us.getD j 0 = (idx ys (xs.getD j 0) : Int)) ∧ Hid (Below W1.heap.size W1 wr)) (fun v33 _ => l - (intOf v33).toNat)
      case atStart => exact ⟨0, by omega, rfl, noughts l, by simp [noughts], HI.out.1, fun j hj => absurd hj (Nat.not_lt_zero j), HI.out.2⟩
      case round =>
        obtain ⟨i, hi, rfl, us, hus, hI, HE, HBr⟩ := hrel
        have HBw : Hid (Below w.heap.size w wr) := bthen HB1.out HBr.out
        by_cases hil : i < l
        · have hili : (i : Int) < (l : Int) := by omega
          obtain ⟨b2, o2, rfl, c2⟩ := (HX.out _ HBw.out).cells (by omega)
          replace c2 := c2 i hil
          have hix : i < xs.length := by rw [HN.out.1]; exact hil
          obtain ⟨x, hx⟩ : ∃ x, x = xs.getD i 0 := ⟨_, rfl⟩
          have hxm : x ∈ xs := by rw [hx]; exact mem_getD hix
          have hxw := HN.out.2.2.2.1 x hxm
          rw [← hx] at c2
          obtain ⟨N, hMN⟩ := HM.out
          have hlook := (hMN _ HBr.out).look hxw
          by_cases hxy : x ∈ ys
          · obtain ⟨t, ht⟩ : ∃ t, t = idx ys x := ⟨_, rfl⟩
            have e : plc15 ys x = some (t : Int) := by rw [ht]; exact if_pos hxy
            rw [e] at hlook
            have hlook2 : (Instr.lookup 50 (.map (some G)) (.int .i64 x) true).run Try.prog wr = .ok (.tuple #[.int .i64 (t : Int), .bool true]) wr := hlook
            have cg := hI.cell (j := i) (by omega)
            have fg := hI.frozen i
            have HS2 : Hid (IBlk (wr.setCell ⟨S, i, none⟩ (.int .i64 (t : Int))) S (us.set i (t : Int))) := hI.set i (t : Int)
            have HE2 : Hid (∀ j, j < i + 1 → xs.getD j 0 ∈ ys ∧ (us.set i (t : Int)).getD j 0 = (idx ys (xs.getD j 0) : Int)) := fun j hj => by
              rw [getD_set15 (by omega)]
              by_cases e : j = i
              · rw [if_pos e, e, ← hx]
                exact ⟨hxy, by rw [ht]⟩
              · rw [if_neg e]
                exact HE.out j (by omega)
            have HB2 : Hid (Below W1.heap.size W1 (wr.setCell ⟨S, i, none⟩ (.int .i64 (t : Int)))) := HBr.out.setCell (p := ⟨S, i, none⟩) (by rw [← HS.out]; exact Nat.le_refl _) _
            clear hI HE hix hx hxm hxw hMN hlook hxy ht e HBr HBw
            go_wp2
            go_roundw
            case rel => exact ⟨i + 1, by omega, by go_num, us.set i (t : Int), by simpa using hus, HS2.out, HE2, HB2⟩
            case measure => simp [intOf]; omega
          · have e : plc15 ys x = none := if_neg hxy
            rw [e] at hlook
            have hlook2 : (Instr.lookup 50 (.map (some G)) (.int .i64 x) true).run Try.prog wr = .ok (.tuple #[.int .i64 0, .bool false]) wr := hlook
            have HF : Hid (PlcT15 xs ys w (.returned (.tuple #[.slice none 0 0, .bool false])) wr) := ⟨none, 0, 0, false, rfl, ⟨fun e => (by cases e), fun z => absurd (z x hxm) hxy⟩, fun e => (by cases e), HBw.out⟩
            clear hI HE hix hx hxm hxw hMN hlook hxy e HBr HBw
            go_wp2
            exact bodyPost_ret (v := .tuple #[.slice none 0 0, .bool false]) (by simp [results, Try.results30, go_sem]) rfl HF.out
        · obtain rfl : i = l := by omega
          have HF : Hid (PlcT15 xs ys w (.returned (.tuple #[.slice (some ⟨S, 0, none⟩) i i, .bool true])) wr) := by
            have e : us = ints (xs.map (idx ys)) := eq_all15 (by rw [hus, ints_len, List.length_map, HN.out.1]) (fun j hj => by
              have hjx : j < xs.length := by rw [HN.out.1]; omega
              rw [(HE.out j (by omega)).2]
              simp [ints, List.getD, List.getElem?_eq_getElem hjx])
            subst e
            refine ⟨_, _, _, true, rfl, ⟨fun _ x hx => ?_, fun _ => rfl⟩, fun _ => hI.lsts (fun x hx => ?_) hus (by omega), HBw.out⟩
            · obtain ⟨j, hj, rfl⟩ := List.getElem_of_mem hx
              have := (HE.out j (by rw [← HN.out.1]; exact hj)).1
              simpa [List.getD, List.getElem?_eq_getElem hj] using this
            · unfold ints at hx
              obtain ⟨m, hm, rfl⟩ := List.mem_map.1 hx
              obtain ⟨z, hz, rfl⟩ := List.mem_map.1 hm
              have := idx_le z ys
              have := HN.out.2.1
              omega
          clear hI HE HBr HBw
          go_wp2
          exact bodyPost_ret (v := .tuple #[.slice (some ⟨S, 0, none⟩) i i, .bool true]) (by simp [results, Try.results30, go_sem]) rfl HF.out
end Go.Proofs.Ytaiikhbfnfcalaa

namespace Go.Proofs.Ytaiikhbfnfcalaa
open Go.RowKit

set_option maxRecDepth 100000 in
set_option maxHeartbeats 12800000 in
theorem tx_p0 {x1 x2 x3 x4 x5 x6 x7 x8 x9 x10 x11 x12 x13 x14 x15 x16 x17 x18 x19 x20 x21 x22 x23 x24 x25 x26 x27 x28 x29 x30 x31 x32 x33 x34 x35 x36 x37 x38 x39 x40 x41 x42 x43 x44 x45 x46 x47 x48 x49 x50 x51 x52 : Value} {Q : Exit → Act → World → Prop} {W : World} {v : TV} 
    (hN : Q .normal ⟨#[.agg #[.slice v.p0 v.l0 v.c0, .slice v.p1 v.l1 v.c1, .slice v.p2 v.l2 v.c2], x1, .pointer (some ⟨W.heap.size, 0, none⟩), x3, .pointer (some ⟨(W.heap.size + 1), 0, none⟩), .int .i64 0, x6, x7, x8, x9, x10, x11, x12, x13, x14, x15, x16, x17, x18, x19, x20, x21, x22, x23, x24, x25, x26, x27, x28, x29, x30, x31, x32, x33, x34, x35, x36, x37, x38, x39, x40, x41, x42, x43, x44, x45, x46, x47, x48, x49, x50, x51, x52], []⟩ ((W.alloc (.cells v.cells 25)).alloc (.cells TV.none.cells 25))) :
    Code.wp Try.prog ((Try.f15.body.bind (pcAt 0)).getD .skip) Q ⟨#[.agg #[.slice v.p0 v.l0 v.c0, .slice v.p1 v.l1 v.c1, .slice v.p2 v.l2 v.c2], x1, x2, x3, x4, x5, x6, x7, x8, x9, x10, x11, x12, x13, x14, x15, x16, x17, x18, x19, x20, x21, x22, x23, x24, x25, x26, x27, x28, x29, x30, x31, x32, x33, x34, x35, x36, x37, x38, x39, x40, x41, x42, x43, x44, x45, x46, x47, x48, x49, x50, x51, x52], []⟩ W := by
  conv => arg 2; whnf
  have HN : Hid (Q .normal ⟨#[.agg #[.slice v.p0 v.l0 v.c0, .slice v.p1 v.l1 v.c1, .slice v.p2 v.l2 v.c2], x1, .pointer (some ⟨W.heap.size, 0, none⟩), x3, .pointer (some ⟨(W.heap.size + 1), 0, none⟩), .int .i64 0, x6, x7, x8, x9, x10, x11, x12, x13, x14, x15, x16, x17, x18, x19, x20, x21, x22, x23, x24, x25, x26, x27, x28, x29, x30, x31, x32, x33, x34, x35, x36, x37, x38, x39, x40, x41, x42, x43, x44, x45, x46, x47, x48, x49, x50, x51, x52], []⟩ ((W.alloc (.cells v.cells 25)).alloc (.cells TV.none.cells 25))) := hN
  clear hN
  go_wp2_with fail
  exact HN.out   

set_option maxRecDepth 100000 in
set_option maxHeartbeats 12800000 in
theorem tx_p1 {x0 x3 x5 x6 x7 x8 x9 x10 x11 x12 x13 x14 x15 x16 x17 x18 x19 x20 x21 x22 x23 x24 x25 x26 x27 x28 x29 x30 x31 x32 x33 x34 x35 x36 x37 x38 x39 x40 x41 x42 x43 x44 x45 x46 x47 x48 x49 x50 x51 x52 : Value} {Q : Exit → Act → World → Prop} {W : World} {g R l c : Nat} {p : Option Addr} {v : TV} {t : Tab} {xs : List Int} (hr : TVar W R TV.none) (hv : TVar W g v) (ht : TabAt W v t) (hL : Lsts W p l c xs)
    (hN : ∀ (wx : World) (y5 y11 y12 y13 y14 y15 y16 y17 y18 y19 : Value), TabOk t → IdsOk xs → Below W.heap.size W wx → Q .normal ⟨#[x0, .slice p l c, .pointer (some ⟨g, 0, none⟩), x3, .pointer (some ⟨R, 0, none⟩), y5, x6, x7, x8, x9, x10, y11, y12, y13, y14, y15, y16, y17, y18, y19, x20, x21, x22, x23, x24, x25, x26, x27, x28, x29, x30, x31, x32, x33, x34, x35, x36, x37, x38, x39, x40, x41, x42, x43, x44, x45, x46, x47, x48, x49, x50, x51, x52], []⟩ wx)
    (hR : ∀ (wx : World) (y11 y12 y13 y14 y15 y16 y17 y18 y19 : Value), ¬ (TabOk t ∧ IdsOk xs) → Below W.heap.size W wx → Q .ret ⟨#[x0, .slice p l c, .pointer (some ⟨g, 0, none⟩), x3, .pointer (some ⟨R, 0, none⟩), .int .i64 20, x6, x7, x8, x9, x10, y11, y12, y13, y14, y15, y16, y17, y18, y19, x20, x21, x22, x23, x24, x25, x26, x27, x28, x29, x30, x31, x32, x33, x34, x35, x36, x37, x38, x39, x40, x41, x42, x43, x44, x45, x46, x47, x48, x49, x50, x51, x52], []⟩ (((wx.setCell ⟨R, 0, none⟩ (.slice none 0 0)).setCell ⟨R, 1, none⟩ (.slice none 0 0)).setCell ⟨R, 2, none⟩ (.slice none 0 0))) :
    Code.wp Try.prog ((Try.f15.body.bind (pcAt 1)).getD .skip) Q ⟨#[x0, .slice p l c, .pointer (some ⟨g, 0, none⟩), x3, .pointer (some ⟨R, 0, none⟩), x5, x6, x7, x8, x9, x10, x11, x12, x13, x14, x15, x16, x17, x18, x19, x20, x21, x22, x23, x24, x25, x26, x27, x28, x29, x30, x31, x32, x33, x34, x35, x36, x37, x38, x39, x40, x41, x42, x43, x44, x45, x46, x47, x48, x49, x50, x51, x52], []⟩ W := by
  conv => arg 2; whnf
  have HN : Hid (∀ (wx : World) (y5 y11 y12 y13 y14 y15 y16 y17 y18 y19 : Value), TabOk t → IdsOk xs → Below W.heap.size W wx → Q .normal ⟨#[x0, .slice p l c, .pointer (some ⟨g, 0, none⟩), x3, .pointer (some ⟨R, 0, none⟩), y5, x6, x7, x8, x9, x10, y11, y12, y13, y14, y15, y16, y17, y18, y19, x20, x21, x22, x23, x24, x25, x26, x27, x28, x29, x30, x31, x32, x33, x34, x35, x36, x37, x38, x39, x40, x41, x42, x43, x44, x45, x46, x47, x48, x49, x50, x51, x52], []⟩ wx) := hN
  have HR : Hid (∀ (wx : World) (y11 y12 y13 y14 y15 y16 y17 y18 y19 : Value), ¬ (TabOk t ∧ IdsOk xs) → Below W.heap.size W wx → Q .ret ⟨#[x0, .slice p l c, .pointer (some ⟨g, 0, none⟩), x3, .pointer (some ⟨R, 0, none⟩), .int .i64 20, x6, x7, x8, x9, x10, y11, y12, y13, y14, y15, y16, y17, y18, y19, x20, x21, x22, x23, x24, x25, x26, x27, x28, x29, x30, x31, x32, x33, x34, x35, x36, x37, x38, x39, x40, x41, x42, x43, x44, x45, x46, x47, x48, x49, x50, x51, x52], []⟩ (((wx.setCell ⟨R, 0, none⟩ (.slice none 0 0)).setCell ⟨R, 1, none⟩ (.slice none 0 0)).setCell ⟨R, 2, none⟩ (.slice none 0 0))) := hR
  clear hN hR
  obtain ⟨c0, c1, c2, -⟩ := hv.cells
  have HC := (show Hid _ from x15right_any v t W ht)
  have HRv : Hid (∀ wx, Below W.heap.size W wx → TVar wx R TV.none) := fun wx hb => hr.below hb
  have HLx : Hid (∀ wx, Below W.heap.size W wx → Lsts wx p l c xs) := fun wx hb => hL.below hb
  clear hv ht hr hL
  go_wp2_with fail
  refine Calls.mono HC.out ?_
  rintro e w2 ⟨z, rfl, hz, hb2⟩
  have HB2 : Hid (Below W.heap.size W w2) := hb2
  clear HC c0 c1 c2 hb2
  cases z with
  | false =>
    have HF : Hid (¬ (TabOk t ∧ IdsOk xs)) := fun q => by have := hz.2 q.1; cases this
    obtain ⟨r0, r1, r2, fz⟩ := (HRv.out _ HB2.out).cells
    have f0 := fz 0
    have f1 := fz 1
    have f2 := fz 2
    unfold TV.none at r0 r1 r2
    clear fz
    clear HN HRv HLx hz
    go_wp2_with fail
    exact HR.out _ _ _ _ _ _ _ _ _ _ HF.out HB2.out
  | true =>
    have HT : Hid (TabOk t) := hz.1 rfl
    have HC2 := (show Hid _ from x15ids_any p l c xs w2 (HLx.out _ HB2.out))
    clear hz HLx
    go_wp2_with fail
    refine Calls.mono HC2.out ?_
    rintro e w3 ⟨y, rfl, hy, hb3⟩
    have HB3 : Hid (Below W.heap.size W w3) := bthen HB2.out hb3
    clear HC2 hb3
    cases y with
    | false =>
      have HF : Hid (¬ (TabOk t ∧ IdsOk xs)) := fun q => by have := hy.2 q.2; cases this
      obtain ⟨r0, r1, r2, fz⟩ := (HRv.out _ HB3.out).cells
      have f0 := fz 0
      have f1 := fz 1
      have f2 := fz 2
      unfold TV.none at r0 r1 r2
      clear fz
      clear HN HRv hy
      go_wp2_with fail
      exact HR.out _ _ _ _ _ _ _ _ _ _ HF.out HB3.out
    | true =>
      have HF : Hid (IdsOk xs) := hy.1 rfl
      clear HR HRv hy
      go_wp2_with fail
      exact HN.out _ _ _ _ _ _ _ _ _ _ _ HT.out HF.out HB3.out

set_option maxRecDepth 100000 in
set_option maxHeartbeats 12800000 in
theorem tx_p3 {x0 x3 x4 x5 x6 x7 x8 x9 x10 x11 x12 x13 x14 x15 x16 x17 x18 x19 x20 x21 x22 x23 x24 x25 x26 x27 x28 x29 x30 x31 x32 x33 x34 x35 x36 x37 x38 x39 x40 x41 x42 x43 x44 x45 x46 x47 x48 x49 x50 x51 x52 : Value} {Q : Exit → Act → World → Prop} {W : World} {g l c : Nat} {p : Option Addr} {v : TV} {xs ys : List Int} (hv : TVar W g v) (hL : Lsts W p l c xs) (hY : Lsts W v.p0 v.l0 v.c0 ys) (hl : l ≤ 256) (hn : v.l0 ≤ 256) (hnd : ys.Nodup)
    (hN : ∀ (pa : Option Addr) (pl pc : Nat) (z : Bool) (wx : World) (y20 y21 y22 y23 y24 y25 y26 : Value), (z = true ↔ ∀ x, x ∈ xs → x ∈ ys) → (z = true → Lsts wx pa pl pc (ints (xs.map (idx ys)))) → Below W.heap.size W wx → Q .normal ⟨#[x0, .slice p l c, .pointer (some ⟨g, 0, none⟩), x3, x4, x5, .slice pa pl pc, .bool z, x8, x9, x10, x11, x12, x13, x14, x15, x16, x17, x18, x19, y20, y21, y22, y23, y24, y25, y26, x27, x28, x29, x30, x31, x32, x33, x34, x35, x36, x37, x38, x39, x40, x41, x42, x43, x44, x45, x46, x47, x48, x49, x50, x51, x52], []⟩ wx) :
    Code.wp Try.prog ((Try.f15.body.bind (pcAt 3)).getD .skip) Q ⟨#[x0, .slice p l c, .pointer (some ⟨g, 0, none⟩), x3, x4, x5, x6, x7, x8, x9, x10, x11, x12, x13, x14, x15, x16, x17, x18, x19, x20, x21, x22, x23, x24, x25, x26, x27, x28, x29, x30, x31, x32, x33, x34, x35, x36, x37, x38, x39, x40, x41, x42, x43, x44, x45, x46, x47, x48, x49, x50, x51, x52], []⟩ W := by
  conv => arg 2; whnf
  have HN : Hid (∀ (pa : Option Addr) (pl pc : Nat) (z : Bool) (wx : World) (y20 y21 y22 y23 y24 y25 y26 : Value), (z = true ↔ ∀ x, x ∈ xs → x ∈ ys) → (z = true → Lsts wx pa pl pc (ints (xs.map (idx ys)))) → Below W.heap.size W wx → Q .normal ⟨#[x0, .slice p l c, .pointer (some ⟨g, 0, none⟩), x3, x4, x5, .slice pa pl pc, .bool z, x8, x9, x10, x11, x12, x13, x14, x15, x16, x17, x18, x19, y20, y21, y22, y23, y24, y25, y26, x27, x28, x29, x30, x31, x32, x33, x34, x35, x36, x37, x38, x39, x40, x41, x42, x43, x44, x45, x46, x47, x48, x49, x50, x51, x52], []⟩ wx) := hN
  clear hN
  obtain ⟨c0, -, -, -⟩ := hv.cells
  have HC := (show Hid _ from x15places_any p l c xs v.p0 v.l0 v.c0 ys W hL hY hl hn hnd)
  clear hv hL hY hl hn hnd
  go_wp2_with fail
  refine Calls.mono HC.out ?_
  rintro e w2 ⟨pa, pl, pc, z, rfl, h1, h2, h3⟩
  have HF : Hid ((z = true ↔ ∀ x, x ∈ xs → x ∈ ys) ∧ (z = true → Lsts w2 pa pl pc (ints (xs.map (idx ys)))) ∧ Below W.heap.size W w2) := ⟨h1, h2, h3⟩
  clear HC h1 h2 h3
  go_wp2_with fail
  exact HN.out _ _ _ _ _ _ _ _ _ _ _ _ HF.out.1 HF.out.2.1 HF.out.2.2

set_option maxRecDepth 100000 in
set_option maxHeartbeats 12800000 in
theorem tx_p4 {x0 x1 x2 x3 x5 x6 x8 x9 x10 x11 x12 x13 x14 x15 x16 x17 x18 x19 x20 x21 x22 x23 x24 x25 x26 x27 x28 x29 x30 x31 x32 x33 x34 x35 x36 x37 x38 x39 x40 x41 x42 x43 x44 x45 x46 x47 x48 x49 x50 x51 x52 : Value} {Q : Exit → Act → World → Prop} {W : World} {R : Nat} {z : Bool} (hr : TVar W R TV.none)
    (hN : ∀ (y5 y27 y28 y29 : Value), z = true → Q .normal ⟨#[x0, x1, x2, x3, .pointer (some ⟨R, 0, none⟩), y5, x6, .bool z, x8, x9, x10, x11, x12, x13, x14, x15, x16, x17, x18, x19, x20, x21, x22, x23, x24, x25, x26, y27, y28, y29, x30, x31, x32, x33, x34, x35, x36, x37, x38, x39, x40, x41, x42, x43, x44, x45, x46, x47, x48, x49, x50, x51, x52], []⟩ W)
    (hR : ∀ (y27 y28 y29 : Value), z = false → Q .ret ⟨#[x0, x1, x2, x3, .pointer (some ⟨R, 0, none⟩), .int .i64 20, x6, .bool z, x8, x9, x10, x11, x12, x13, x14, x15, x16, x17, x18, x19, x20, x21, x22, x23, x24, x25, x26, y27, y28, y29, x30, x31, x32, x33, x34, x35, x36, x37, x38, x39, x40, x41, x42, x43, x44, x45, x46, x47, x48, x49, x50, x51, x52], []⟩ (((W.setCell ⟨R, 0, none⟩ (.slice none 0 0)).setCell ⟨R, 1, none⟩ (.slice none 0 0)).setCell ⟨R, 2, none⟩ (.slice none 0 0))) :
    Code.wp Try.prog ((Try.f15.body.bind (pcAt 4)).getD .skip) Q ⟨#[x0, x1, x2, x3, .pointer (some ⟨R, 0, none⟩), x5, x6, .bool z, x8, x9, x10, x11, x12, x13, x14, x15, x16, x17, x18, x19, x20, x21, x22, x23, x24, x25, x26, x27, x28, x29, x30, x31, x32, x33, x34, x35, x36, x37, x38, x39, x40, x41, x42, x43, x44, x45, x46, x47, x48, x49, x50, x51, x52], []⟩ W := by
  conv => arg 2; whnf
  have HN : Hid (∀ (y5 y27 y28 y29 : Value), z = true → Q .normal ⟨#[x0, x1, x2, x3, .pointer (some ⟨R, 0, none⟩), y5, x6, .bool z, x8, x9, x10, x11, x12, x13, x14, x15, x16, x17, x18, x19, x20, x21, x22, x23, x24, x25, x26, y27, y28, y29, x30, x31, x32, x33, x34, x35, x36, x37, x38, x39, x40, x41, x42, x43, x44, x45, x46, x47, x48, x49, x50, x51, x52], []⟩ W) := hN
  have HR : Hid (∀ (y27 y28 y29 : Value), z = false → Q .ret ⟨#[x0, x1, x2, x3, .pointer (some ⟨R, 0, none⟩), .int .i64 20, x6, .bool z, x8, x9, x10, x11, x12, x13, x14, x15, x16, x17, x18, x19, x20, x21, x22, x23, x24, x25, x26, y27, y28, y29, x30, x31, x32, x33, x34, x35, x36, x37, x38, x39, x40, x41, x42, x43, x44, x45, x46, x47, x48, x49, x50, x51, x52], []⟩ (((W.setCell ⟨R, 0, none⟩ (.slice none 0 0)).setCell ⟨R, 1, none⟩ (.slice none 0 0)).setCell ⟨R, 2, none⟩ (.slice none 0 0))) := hR
  clear hN hR
  obtain ⟨r0, r1, r2, fz⟩ := hr.cells
  have f0 := fz 0
  have f1 := fz 1
  have f2 := fz 2
  unfold TV.none at r0 r1 r2
  clear fz hr
  cases z with
  | false =>
    clear HN
    go_wp2_with fail
    exact HR.out  _ _ _ (by trivial)
  | true =>
    clear HR
    go_wp2_with fail
    exact HN.out  _ _ _ _ (by trivial)

set_option maxRecDepth 100000 in
set_option maxHeartbeats 12800000 in
theorem tx_p6 {x0 x3 x4 x5 x6 x7 x8 x9 x10 x11 x12 x13 x14 x15 x16 x17 x18 x19 x20 x21 x22 x23 x24 x25 x26 x27 x28 x29 x30 x31 x32 x33 x34 x35 x36 x37 x38 x39 x40 x41 x42 x43 x44 x45 x46 x47 x48 x49 x50 x51 x52 : Value} {Q : Exit → Act → World → Prop} {W : World} {g l c : Nat} {p : Option Addr} {v : TV} {xs bs : List Int} (hv : TVar W g v) (hL : Lsts W p l c xs) (hB : Lsts W v.p1 v.l1 v.c1 bs) (hl : l ≤ 256) (hb : v.l1 ≤ 16)
    (hN : ∀ (u : TV) (s : Nat) (wx : World) (y30 y31 y32 y33 y34 y35 : Value), TVar wx s u → LE (fun b => W.heap.size ≤ b ∧ b ≠ s) wx u.p0 u.l0 u.c0 xs → LE (fun b => W.heap.size ≤ b ∧ b ≠ s) wx u.p1 u.l1 u.c1 bs → u.p2 = none → u.l2 = 0 → u.c2 = 0 → W.heap.size ≤ s → Below W.heap.size W wx → Q .normal ⟨#[x0, .slice p l c, .pointer (some ⟨g, 0, none⟩), x3, x4, x5, x6, x7, .pointer (some ⟨s, 0, none⟩), x9, x10, x11, x12, x13, x14, x15, x16, x17, x18, x19, x20, x21, x22, x23, x24, x25, x26, x27, x28, x29, y30, y31, y32, y33, y34, y35, x36, x37, x38, x39, x40, x41, x42, x43, x44, x45, x46, x47, x48, x49, x50, x51, x52], []⟩ wx) :
    Code.wp Try.prog ((Try.f15.body.bind (pcAt 6)).getD .skip) Q ⟨#[x0, .slice p l c, .pointer (some ⟨g, 0, none⟩), x3, x4, x5, x6, x7, x8, x9, x10, x11, x12, x13, x14, x15, x16, x17, x18, x19, x20, x21, x22, x23, x24, x25, x26, x27, x28, x29, x30, x31, x32, x33, x34, x35, x36, x37, x38, x39, x40, x41, x42, x43, x44, x45, x46, x47, x48, x49, x50, x51, x52], []⟩ W := by
  conv => arg 2; whnf
  have HN : Hid (∀ (u : TV) (s : Nat) (wx : World) (y30 y31 y32 y33 y34 y35 : Value), TVar wx s u → LE (fun b => W.heap.size ≤ b ∧ b ≠ s) wx u.p0 u.l0 u.c0 xs → LE (fun b => W.heap.size ≤ b ∧ b ≠ s) wx u.p1 u.l1 u.c1 bs → u.p2 = none → u.l2 = 0 → u.c2 = 0 → W.heap.size ≤ s → Below W.heap.size W wx → Q .normal ⟨#[x0, .slice p l c, .pointer (some ⟨g, 0, none⟩), x3, x4, x5, x6, x7, .pointer (some ⟨s, 0, none⟩), x9, x10, x11, x12, x13, x14, x15, x16, x17, x18, x19, x20, x21, x22, x23, x24, x25, x26, x27, x28, x29, y30, y31, y32, y33, y34, y35, x36, x37, x38, x39, x40, x41, x42, x43, x44, x45, x46, x47, x48, x49, x50, x51, x52], []⟩ wx) := hN
  clear hN
  have c1 := hv.cells.2.1
  have hgl := hv.lt
  have n0 : W.heap.size ≠ g := by omega
  have k0 := n0.symm
  have HCx : Hid (∀ wx, Below W.heap.size W wx → Calls Try.prog 31 #[.slice p l c] wx fun e w' => ∃ a l c, e = .returned (.slice a l c) ∧ Lsts w' a l c xs ∧ (∀ ad, a = some ad → wx.heap.size ≤ ad.block ∧ ad.block < w'.heap.size) ∧ Below wx.heap.size wx w') := fun wx h => clone15_any p l c xs wx (hL.below h) (by omega)
  have HCb : Hid (∀ wx, Below W.heap.size W wx → Calls Try.prog 31 #[.slice v.p1 v.l1 v.c1] wx fun e w' => ∃ a l c, e = .returned (.slice a l c) ∧ Lsts w' a l c bs ∧ (∀ ad, a = some ad → wx.heap.size ≤ ad.block ∧ ad.block < w'.heap.size) ∧ Below wx.heap.size wx w') := fun wx h => clone15_any v.p1 v.l1 v.c1 bs wx (hB.below h) (by omega)
  have HW : Hid (∀ w1 w5, Below W.heap.size W w1 → Below w1.heap.size w1 w5 → Below W.heap.size W w5 ∧ w5.cell? ⟨g, 1, none⟩ = some (.slice v.p1 v.l1 v.c1) ∧ w5.heap.size ≠ g ∧ g ≠ w5.heap.size) := fun w1 w5 h1 h5 => ⟨bthen h1 h5, (hv.below (bthen h1 h5)).cells.2.1, by have := (bthen h1 h5).size; omega, by have := (bthen h1 h5).size; omega⟩
  have HK : Hid (∀ wx, Below W.heap.size W wx → wx.cell? ⟨g, 1, none⟩ = some (.slice v.p1 v.l1 v.c1)) := fun wx h => (hv.below h).cells.2.1
  clear hv hL hB hl hb hgl
  refine wp_pcOnly ?_
  go_wp2_with fail
  go_region_held3 (fun w' => w'.cell? ⟨g, 1, none⟩ = some (.slice v.p1 v.l1 v.c1)) (first | exact HK.out _ (by repeat (first | exact Below.refl _ _ | assumption | refine bdr12 ?_ | refine bgr12 ?_ _ | (refine bst15 ?_ ?_ _; rotate_left; focus (first | (dsimp only; omega) | (simp; done) | (simp; omega) | fail)))) | go_keep | assumption) (first
    | (go_at_call 31; with_reducible refine Calls.mono (HCx.out _ (by repeat (first | exact Below.refl _ _ | assumption | refine bdr12 ?_ | refine bgr12 ?_ _ | (refine bst15 ?_ ?_ _; rotate_left; focus (first | (dsimp only; omega) | (simp; done) | (simp; omega) | fail))))) ?_; rintro e w5 ⟨a5, n5, c5, rfl, h5, q5, g5⟩; obtain ⟨b5, e5, m5, m6⟩ := HW.out _ w5 (by repeat (first | exact Below.refl _ _ | assumption | refine bdr12 ?_ | refine bgr12 ?_ _ | (refine bst15 ?_ ?_ _; rotate_left; focus (first | (dsimp only; omega) | (simp; done) | (simp; omega) | fail)))) g5; have z5 := b5.size; have y5 := g5.size; (try simp at y5); (try (first | (refine cut15 ?_ (fun (T5 : TVar w5 (W.heap.size) TV.none) => ?_); focus (refine TVar.below ?_ g5; (repeat (first | assumption | (refine TVar.at15 (TVar.new _ TV.none) ?_; simp; done) | (with_reducible refine TVar.dr15 ?_) | (with_reducible refine TVar.go15 ?_ _) | fail)); done)) | fail)); (try (obtain ⟨C50, C51, C52, F5⟩ := T5.cells; dsimp only [TV.none] at C50 C51 C52; have F50 := F5 0; have F51 := F5 1; have F52 := F5 2; clear F5)))
    | (go_at_call 31; with_reducible refine Calls.mono (HCb.out _ (by repeat (first | exact Below.refl _ _ | assumption | refine bdr12 ?_ | refine bgr12 ?_ _ | (refine bst15 ?_ ?_ _; rotate_left; focus (first | (dsimp only; omega) | (simp; done) | (simp; omega) | fail))))) ?_; rintro e w7 ⟨a7, n7, c7, rfl, h7, q7, g7⟩; obtain ⟨b7, e7, m7, m8⟩ := HW.out _ w7 (by repeat (first | exact Below.refl _ _ | assumption | refine bdr12 ?_ | refine bgr12 ?_ _ | (refine bst15 ?_ ?_ _; rotate_left; focus (first | (dsimp only; omega) | (simp; done) | (simp; omega) | fail)))) g7; have z7 := b7.size; have y7 := g7.size; (try simp at y7); (try (first | (refine cut15 ?_ (fun (T7 : TVar w7 (w5.heap.size) TV.none) => ?_); focus (refine TVar.below ?_ g7; (repeat (first | assumption | (refine TVar.at15 (TVar.new _ TV.none) ?_; simp; done) | (with_reducible refine TVar.dr15 ?_) | (with_reducible refine TVar.go15 ?_ _) | fail)); done)) | (refine cut15 ?_ (fun (T7 : TVar w7 (W.heap.size) TV.none) => ?_); focus (refine TVar.below ?_ g7; (repeat (first | assumption | (refine TVar.at15 (TVar.new _ TV.none) ?_; simp; done) | (with_reducible refine TVar.dr15 ?_) | (with_reducible refine TVar.go15 ?_ _) | fail)); done)) | fail)); (try (obtain ⟨C70, C71, C72, F7⟩ := T7.cells; dsimp only [TV.none] at C70 C71 C72; have F70 := F7 0; have F71 := F7 1; have F72 := F7 2; clear F7)))
    | fail)
  all_goals
    first
      | refine HN.out ⟨a5, n5, c5, a7, n7, c7, none, 0, 0⟩ _ _ _ _ _ _ _ _ (tvput15 (v := TV.none) ?_) (le15 h5 ?_ (only3_15 _ _ _) ?_) (le15 h7 ?_ (only3_15 _ _ _) ?_) rfl rfl rfl ?_ ?_
      | refine HN.out ⟨a5, n5, c5, a7, n7, c7, none, 0, 0⟩ _ _ _ _ _ _ _ _ (cut15 ?_ (fun (_ : True) => TVar.new _ ⟨a5, n5, c5, a7, n7, c7, none, 0, 0⟩)) ⟨h5.below ?_, ?_⟩ ⟨h7.below ?_, ?_⟩ rfl rfl rfl ?_ ?_
      | fail
    · (repeat (first | exact True.intro | assumption | (refine TVar.at15 (TVar.new _ TV.none) ?_; simp; done) | (with_reducible refine TVar.dr15 ?_) | (with_reducible refine TVar.go15 ?_ _) | fail))
    · (repeat (first | exact Below.refl _ _ | assumption | refine bdr12 ?_ | refine bgr12 ?_ _ | refine bthen ?_ g7 | fail))
    · intro ad e
      have h1 := q5 ad e
      (try simp at h1)
      refine ⟨?_, ?_⟩ <;> omega
    · (repeat (first | exact Below.refl _ _ | assumption | refine bdr12 ?_ | refine bgr12 ?_ _ | refine bthen ?_ g5 | fail))
    · intro ad e
      have h1 := q7 ad e
      (try simp at h1)
      refine ⟨?_, ?_⟩ <;> omega
    · first | omega | (simp; done) | (simp; omega)
    · exact (by repeat (first | exact Below.refl _ _ | assumption | refine bdr12 ?_ | refine bgr12 ?_ _ | (refine bst15 ?_ ?_ _; rotate_left; focus (first | (dsimp only; omega) | (simp; done) | (simp; omega) | fail))))

end Go.Proofs.Ytaiikhbfnfcalaa

namespace Go.Proofs.Ytaiikhbfnfcalaa
open Go.RowKit

/-- A call, as one step of a region that draws. -/
theorem step_call15 {P : Program} {ops : Array Oper} {o : Oper} {a : Act} {w : World} {K : Act → World → Prop} {Q : Exit → Act → World → Prop} {E : Prop} {post : Ending → World → Prop} (hgd : o.guard = none) (f : FuncId) (args : Array Value) (hrun : (execOp a.eval o).run P w = .ok (.enter f args) w) (hc : Calls P f args w post) (h : ∀ e w', post e w' → ∃ v, e = .returned v ∧ K (a.put o.dst v) w') : if Region.wanted o (yielded ops a.tmps) = true then Oper.wp P o a w K Q else E := by
  rw [if_pos (by simp [Region.wanted, hgd])]
  unfold Oper.wp
  rw [hrun]
  refine Calls.mono hc ?_
  intro e w' q
  obtain ⟨v, rfl, k⟩ := h e w' q
  exact k
set_option maxRecDepth 100000 in
set_option maxHeartbeats 12800000 in
theorem tx_p10 {x0 x1 x2 x3 x4 x5 x7 x9 x11 x12 x13 x14 x15 x16 x17 x18 x19 x20 x21 x22 x23 x24 x25 x26 x27 x28 x29 x30 x31 x32 x33 x34 x35 x36 x37 x38 x39 x40 x41 x42 x43 x44 x45 x46 x47 x48 x49 x50 x51 x52 : Value} {Q : Exit → Act → World → Prop} {W : World} {s pl pk nc kc base : Nat} {pa pc : Option Addr} {u : TV} {cs : List (List Int)} {col : List Int} {Qp : Nat → Prop} (hC0 : ∀ wx, Below W.heap.size W wx → Calls Try.prog 32 #[.slice pc nc kc, .slice pa pl pk] wx fun e w' => NewT15 col wx e w') (hv : TVar W s u) (hC : LHd Qp W base (.slice u.p2 u.l2 u.c2) cs) (hcs : cs.length < 1000000) (hbase : base ≤ W.heap.size) (hQ : ∀ b, W.heap.size ≤ b → Qp b)
    (hN : ∀ (a6 : Option Addr) (l6 c6 : Nat) (w6 : World) (y43 y44 y45 y46 y47 y48 y49 y50 : Value), LHd Qp w6 base (.slice a6 l6 c6) (cs ++ [col]) → Only (fun b => (Value.slice u.p2 u.l2 u.c2).ownBlock = some b) W w6 → Q .normal ⟨#[x0, x1, x2, x3, x4, x5, .slice pa pl pk, x7, .pointer (some ⟨s, 0, none⟩), x9, .slice pc nc kc, x11, x12, x13, x14, x15, x16, x17, x18, x19, x20, x21, x22, x23, x24, x25, x26, x27, x28, x29, x30, x31, x32, x33, x34, x35, x36, x37, x38, x39, x40, x41, x42, y43, y44, y45, y46, y47, y48, y49, y50, x51, x52], []⟩ (w6.setCell ⟨s, 2, none⟩ (.slice a6 l6 c6))) :
    Code.wp Try.prog (((Try.f15.body.bind (pcBlk 1)).bind (pcFrom 10)).getD .skip) Q ⟨#[x0, x1, x2, x3, x4, x5, .slice pa pl pk, x7, .pointer (some ⟨s, 0, none⟩), x9, .slice pc nc kc, x11, x12, x13, x14, x15, x16, x17, x18, x19, x20, x21, x22, x23, x24, x25, x26, x27, x28, x29, x30, x31, x32, x33, x34, x35, x36, x37, x38, x39, x40, x41, x42, x43, x44, x45, x46, x47, x48, x49, x50, x51, x52], []⟩ W := by
  conv => arg 2; whnf
  have HN : Hid (∀ (a6 : Option Addr) (l6 c6 : Nat) (w6 : World) (y43 y44 y45 y46 y47 y48 y49 y50 : Value), LHd Qp w6 base (.slice a6 l6 c6) (cs ++ [col]) → Only (fun b => (Value.slice u.p2 u.l2 u.c2).ownBlock = some b) W w6 → Q .normal ⟨#[x0, x1, x2, x3, x4, x5, .slice pa pl pk, x7, .pointer (some ⟨s, 0, none⟩), x9, .slice pc nc kc, x11, x12, x13, x14, x15, x16, x17, x18, x19, x20, x21, x22, x23, x24, x25, x26, x27, x28, x29, x30, x31, x32, x33, x34, x35, x36, x37, x38, x39, x40, x41, x42, y43, y44, y45, y46, y47, y48, y49, y50, x51, x52], []⟩ (w6.setCell ⟨s, 2, none⟩ (.slice a6 l6 c6))) := hN
  clear hN
  have c2 := hv.cells.2.2.1
  have HCl : Hid (∀ wx, Below W.heap.size W wx → Calls Try.prog 32 #[.slice pc nc kc, .slice pa pl pk] wx fun e w' => ∃ a l c, e = .returned (.slice a l c) ∧ Hid (LE Qp w' a l c col ∧ LHd Qp w' base (.slice u.p2 u.l2 u.c2) cs) ∧ Below W.heap.size W w' ∧ (w'.cell? ⟨s, 2, none⟩ = some (.slice u.p2 u.l2 u.c2) ∧ (w'.alloc (.cells #[.slice a l c] 22)).cell? ⟨s, 2, none⟩ = some (.slice u.p2 u.l2 u.c2) ∧ (w'.alloc (.cells #[.slice a l c] 22)).cell? ⟨w'.heap.size, 0, none⟩ = some (.slice a l c) ∧ (w'.drew.alloc (.cells #[.slice a l c] 22)).cell? ⟨s, 2, none⟩ = some (.slice u.p2 u.l2 u.c2) ∧ (w'.drew.alloc (.cells #[.slice a l c] 22)).cell? ⟨w'.heap.size, 0, none⟩ = some (.slice a l c))) := fun wx hb => (hC0 wx hb).mono (fun e w' q => by
    obtain ⟨a, l, c, rfl, h1, h2, h3⟩ := q
    have hbw := bthen hb h3
    have hba := bthen hbw (balloc w' (.cells #[.slice a l c] 22))
    have hbd := bthen (bdr12 hbw) (balloc w'.drew (.cells #[.slice a l c] 22))
    exact ⟨a, l, c, rfl, ⟨⟨h1, fun ad e => hQ _ (Nat.le_trans hb.size (h2 ad e).1)⟩, hC.below hbw⟩, hbw, (hv.below hbw).cells.2.2.1, (hv.below hba).cells.2.2.1, by simp, (hv.below hbd).cells.2.2.1, World.cell?_alloc_new w'.drew _ _ _⟩)
  have HZ : Hid (cs.length < 1000000) := hcs
  have HBs : Hid (∀ wx, Below W.heap.size W wx → base ≤ wx.heap.size) := fun wx h => Nat.le_trans hbase h.size
  have HY : Hid (∀ w5 w6 v6, Below W.heap.size W w5 → LHd Qp w6 base v6 (cs ++ [col]) → w5.grownBy w6 (Value.slice u.p2 u.l2 u.c2).ownBlock → ∃ a6 l6 c6, v6 = .slice a6 l6 c6 ∧ (w6.cell? ⟨s, 2, none⟩ = some (.slice u.p2 u.l2 u.c2) ∧ w6.frozen? ⟨s, 2, none⟩ = false) ∧ Hid (LHd Qp w6 base (.slice a6 l6 c6) (cs ++ [col]) ∧ Only (fun b => (Value.slice u.p2 u.l2 u.c2).ownBlock = some b) W w6)) := fun w5 w6 v6 hb h6 g6 => by
    obtain ⟨a6, c6, e, -⟩ := h6.row
    have hv6 : TVar w6 s u := (g6.block s (hv.below hb).lt (fun e => rows_var hC hv e.symm)).trans (hv.below hb)
    subst e
    exact ⟨a6, _, c6, rfl, ⟨hv6.cells.2.2.1, hv6.cells.2.2.2 2⟩, h6, (Only.of_below hb).trans (Only.of_grown g6 (fun b e => e)) (fun b e => .inl e)⟩
  clear hC0 hv hC hcs hbase hQ
  refine wp_pcOnly ?_
  go_wp2_with fail
  go_region_law (first
    | (refine step_appLH _ rfl (.tmp 44) (.tmp 48) 23 rfl Try.underlying23 base _ cs (by rfl) (h5.out.2.below (by repeat (first | exact Below.refl _ _ | assumption | refine bdr12 ?_ | refine bgr12 ?_ _ | (refine bst15 ?_ ?_ _; rotate_left; focus (first | (dsimp only; omega) | (simp; done) | (simp; omega) | fail))))) _ _ _ _ col (by rfl) (by assumption) (h5.out.1.below (by repeat (first | exact Below.refl _ _ | assumption | refine bdr12 ?_ | refine bgr12 ?_ _ | (refine bst15 ?_ ?_ _; rotate_left; focus (first | (dsimp only; omega) | (simp; done) | (simp; omega) | fail))))) HZ.out (HBs.out _ (by repeat (first | exact Below.refl _ _ | assumption | refine bdr12 ?_ | refine bgr12 ?_ _ | (refine bst15 ?_ ?_ _; rotate_left; focus (first | (dsimp only; omega) | (simp; done) | (simp; omega) | fail))))) ?_; intro v6 w6 h6 g6; obtain ⟨a6, l6, c6, rfl, ⟨e6, f6⟩, hG⟩ := HY.out _ w6 v6 (by repeat (first | exact Below.refl _ _ | assumption | refine bdr12 ?_ | refine bgr12 ?_ _ | (refine bst15 ?_ ?_ _; rotate_left; focus (first | (dsimp only; omega) | (simp; done) | (simp; omega) | fail)))) h6 g6; clear h6 g6)
    | (refine step_call15 rfl 32 #[.slice pc nc kc, .slice pa pl pk] (by simp [go_sem, Try.call32]) (HCl.out _ (by repeat (first | exact Below.refl _ _ | assumption | refine bdr12 ?_ | refine bgr12 ?_ _ | (refine bst15 ?_ ?_ _; rotate_left; focus (first | (dsimp only; omega) | (simp; done) | (simp; omega) | fail))))) ?_; rintro e w5 ⟨a5, n5, c5, rfl, h5, b5, e51, e52, e53, e54, e55⟩; refine ⟨_, rfl, ?_⟩)
    | fail)
  all_goals
    go_wp2_with fail
    exact HN.out _ _ _ _ _ _ _ _ _ _ _ _ hG.out.1 hG.out.2

set_option maxRecDepth 100000 in
set_option maxHeartbeats 12800000 in
theorem tx_p12 {x0 x1 x2 x3 x5 x6 x7 x9 x10 x11 x12 x13 x14 x15 x16 x17 x18 x19 x20 x21 x22 x23 x24 x25 x26 x27 x28 x29 x30 x31 x32 x33 x34 x35 x36 x37 x38 x39 x40 x41 x42 x43 x44 x45 x46 x47 x48 x49 x50 x51 x52 : Value} {Q : Exit → Act → World → Prop} {W : World} {R s : Nat} {u : TV} (hr : TVar W R TV.none) (hv : TVar W s u)
    (hR : ∀ (y52 : Value), Q .ret ⟨#[x0, x1, x2, x3, .pointer (some ⟨R, 0, none⟩), .int .i64 0, x6, x7, .pointer (some ⟨s, 0, none⟩), x9, x10, x11, x12, x13, x14, x15, x16, x17, x18, x19, x20, x21, x22, x23, x24, x25, x26, x27, x28, x29, x30, x31, x32, x33, x34, x35, x36, x37, x38, x39, x40, x41, x42, x43, x44, x45, x46, x47, x48, x49, x50, x51, y52], []⟩ (((W.setCell ⟨R, 0, none⟩ (.slice u.p0 u.l0 u.c0)).setCell ⟨R, 1, none⟩ (.slice u.p1 u.l1 u.c1)).setCell ⟨R, 2, none⟩ (.slice u.p2 u.l2 u.c2))) :
    Code.wp Try.prog ((Try.f15.body.bind (pcFrom 12)).getD .skip) Q ⟨#[x0, x1, x2, x3, .pointer (some ⟨R, 0, none⟩), x5, x6, x7, .pointer (some ⟨s, 0, none⟩), x9, x10, x11, x12, x13, x14, x15, x16, x17, x18, x19, x20, x21, x22, x23, x24, x25, x26, x27, x28, x29, x30, x31, x32, x33, x34, x35, x36, x37, x38, x39, x40, x41, x42, x43, x44, x45, x46, x47, x48, x49, x50, x51, x52], []⟩ W := by
  conv => arg 2; whnf
  have HR : Hid (∀ (y52 : Value), Q .ret ⟨#[x0, x1, x2, x3, .pointer (some ⟨R, 0, none⟩), .int .i64 0, x6, x7, .pointer (some ⟨s, 0, none⟩), x9, x10, x11, x12, x13, x14, x15, x16, x17, x18, x19, x20, x21, x22, x23, x24, x25, x26, x27, x28, x29, x30, x31, x32, x33, x34, x35, x36, x37, x38, x39, x40, x41, x42, x43, x44, x45, x46, x47, x48, x49, x50, x51, y52], []⟩ (((W.setCell ⟨R, 0, none⟩ (.slice u.p0 u.l0 u.c0)).setCell ⟨R, 1, none⟩ (.slice u.p1 u.l1 u.c1)).setCell ⟨R, 2, none⟩ (.slice u.p2 u.l2 u.c2))) := hR
  clear hR
  obtain ⟨c0, c1, c2, -⟩ := hv.cells
  clear hv
  obtain ⟨r0, r1, r2, fz⟩ := hr.cells
  have f0 := fz 0
  have f1 := fz 1
  have f2 := fz 2
  unfold TV.none at r0 r1 r2
  clear fz hr
  go_wp2_with fail
  exact HR.out  _ 

end Go.Proofs.Ytaiikhbfnfcalaa

namespace Go.Proofs.Ytaiikhbfnfcalaa
open Go.RowKit

set_option maxRecDepth 100000 in
set_option maxHeartbeats 12800000 in
theorem tx_l0 {x0 x1 x3 x4 x5 x7 x9 x10 x11 x12 x13 x14 x15 x16 x17 x18 x19 x20 x21 x22 x23 x24 x25 x26 x27 x28 x29 x30 x31 x32 x33 x34 x35 x36 x37 x38 x39 x40 x41 x42 x43 x44 x45 x46 x47 x48 x49 x50 x51 x52 : Value} {Q : Exit → Act → World → Prop} {w X W : World} {g R s pl pk : Nat} {pa : Option Addr} {v u0 u : TV} {t : Tab} {xs : List Int} (ht : TabAt w v t) (hP : ∀ wx, Only (fun b => b = s) X wx → Lsts wx pa pl pk (ints (xs.map (idx t.ids)))) (hok : TakeOk t xs) (hw : ∀ W', Only (fun b => b = s) X W' → Below w.heap.size w W') (hJ : TkAt X g R s v u0 u [] W)
    (hN : ∀ (u' : TV) (wx : World) (y10 y36 y37 y38 y39 y40 y41 y42 y43 y44 y45 y46 y47 y48 y49 y50 y51 : Value), TkAt X g R s v u0 u' (t.cols.map (fun c => xs.map fun x => c.getD (idx t.ids x) 0)) wx → Q .normal ⟨#[x0, x1, .pointer (some ⟨g, 0, none⟩), x3, x4, x5, .slice pa pl pk, x7, .pointer (some ⟨s, 0, none⟩), x9, y10, x11, x12, x13, x14, x15, x16, x17, x18, x19, x20, x21, x22, x23, x24, x25, x26, x27, x28, x29, x30, x31, x32, x33, x34, x35, y36, y37, y38, y39, y40, y41, y42, y43, y44, y45, y46, y47, y48, y49, y50, y51, x52], []⟩ wx) :
    Code.wp Try.prog ((Try.f15.body.bind (pcAt 7)).getD .skip) Q ⟨#[x0, x1, .pointer (some ⟨g, 0, none⟩), x3, x4, x5, .slice pa pl pk, x7, .pointer (some ⟨s, 0, none⟩), x9, x10, x11, x12, x13, x14, x15, x16, x17, x18, x19, x20, x21, x22, x23, x24, x25, x26, x27, x28, x29, x30, x31, x32, x33, x34, x35, x36, x37, x38, x39, x40, x41, x42, x43, x44, x45, x46, x47, x48, x49, x50, x51, x52], []⟩ W := by
  conv => arg 2; whnf
  have HN : Hid (∀ (u' : TV) (wx : World) (y10 y36 y37 y38 y39 y40 y41 y42 y43 y44 y45 y46 y47 y48 y49 y50 y51 : Value), TkAt X g R s v u0 u' (t.cols.map (fun c => xs.map fun x => c.getD (idx t.ids x) 0)) wx → Q .normal ⟨#[x0, x1, .pointer (some ⟨g, 0, none⟩), x3, x4, x5, .slice pa pl pk, x7, .pointer (some ⟨s, 0, none⟩), x9, y10, x11, x12, x13, x14, x15, x16, x17, x18, x19, x20, x21, x22, x23, x24, x25, x26, x27, x28, x29, x30, x31, x32, x33, x34, x35, y36, y37, y38, y39, y40, y41, y42, y43, y44, y45, y46, y47, y48, y49, y50, y51, x52], []⟩ wx) := hN
  clear hN
  have hcl := ht.cols.hlen
  have h16 := hok.tab.few
  have h256 := hok.idl.few
  have hpl := (hP X (Only.refl _ _)).hlen
  rw [ints_len, List.length_map] at hpl
  have m2 := ht.cols.hmax
  have m2' := ht.cols.hcap
  unfold maxLen at m2
  obtain ⟨-, -, c2, -⟩ := hJ.gv.cells
  have HH : Hid (t.cols.length = v.l2 ∧ v.l2 ≤ 16 ∧ xs.length = pl ∧ xs.length ≤ 256) := ⟨hcl, by omega, hpl, h256⟩
  have HT : Hid (∀ wx, Only (fun b => b = s) X wx → TabAt wx v t ∧ Lsts wx pa pl pk (ints (xs.map (idx t.ids)))) := fun wx o => ⟨ht.below (hw wx o), hP wx o⟩
  have HOk : Hid (TakeOk t xs) := hok
  obtain ⟨p0, l0, q0, p1, l1, q1, p2, l2, q2⟩ := v
  dsimp only at *
  clear hcl h16 h256 hpl ht hP hok hw
  refine pcSeq (fun Q1 n1 r1 _ => ?_)
  go_wp2_with fail
  refine n1 _ _ (pcBlock (fun Q2 n2 e2 r2 => ?_))
  clear c2
  go_loopw [39] (fun v39 wr => ∃ (k : Nat) (u' : TV), v39 = .int .i64 (k : Int) ∧ k ≤ l2 ∧ TkAt X g R s ⟨p0, l0, q0, p1, l1, q1, p2, l2, q2⟩ u0 u' ((t.cols.take k).map (fun c => xs.map fun x => c.getD (idx t.ids x) 0)) wr) (fun v39 _ => l2 - (intOf v39).toNat)
  case atStart => exact ⟨0, u, rfl, Nat.zero_le _, hJ⟩
  case round =>
    clear hJ
    obtain ⟨k, u', rfl, hk, hJ⟩ := hrel
    by_cases hlt : k < l2
    · have hlti : (k : Int) < (l2 : Int) := by omega
      have hk0 : (0 : Int) ≤ (k : Int) := by omega
      obtain ⟨hTr, hPr⟩ := HT.out _ hJ.only
      obtain ⟨b1, o1, pc, nc, kc, e1, mk, hLc⟩ := hTr.cols.at15 hlt
      have hcok := HOk.out.tab.col k (by rw [HH.out.1]; exact hlt)
      have hcol : atPl15 (t.cols.getD k []) (xs.map (idx t.ids)) = (fun c => xs.map fun x => c.getD (idx t.ids x) 0) (t.cols.getD k []) := by
        unfold atPl15
        rw [List.map_map]
        rfl
      have HCl : Hid (∀ wx, Below wr.heap.size wr wx → Calls Try.prog 32 #[.slice pc nc kc, .slice pa pl pk] wx fun e w' => NewT15 ((fun c => xs.map fun x => c.getD (idx t.ids x) 0) (t.cols.getD k [])) wx e w') := fun wx hb => by
        rw [← hcol]
        exact x15binsAt_any pa pl pk _ pc nc kc _ wx (hLc.below hb) (hPr.below hb) (by rw [← HH.out.2.2.1]; exact HH.out.2.2.2) (fun j hj => by
          obtain ⟨x, hx, rfl⟩ := List.mem_map.1 hj
          have h1 := hLc.hlen
          have h2 := hcok.len
          have h3 := idx_lt.2 (HOk.out.has x hx)
          omega)
      have HJ : Hid (TkAt X g R s ⟨p0, l0, q0, p1, l1, q1, p2, l2, q2⟩ u0 u' ((t.cols.take k).map (fun c => xs.map fun x => c.getD (idx t.ids x) 0)) wr) := hJ
      clear hTr hPr hLc hcok hcol hJ
      dsimp only at e1
      subst e1
      go_wp2_with fail
      refine tx_p10 (base := X.heap.size) (Qp := fun b => b ≠ s ∧ X.heap.size ≤ b) (u := u') HCl.out HJ.out.var HJ.out.cols (by have := HH.out; simp; omega) HJ.out.only.size (fun b hb => ⟨by have := HJ.out.low.1; have := HJ.out.only.size; omega, Nat.le_trans HJ.out.only.size hb⟩) ?_
      intro a6 l6 c6 w6
      intros
      rename_i g1 g2
      have HJ2 : Hid (TkAt X g R s ⟨p0, l0, q0, p1, l1, q1, some ⟨b1, o1, none⟩, l2, q2⟩ u0 ⟨u'.p0, u'.l0, u'.c0, u'.p1, u'.l1, u'.c1, a6, l6, c6⟩ ((t.cols.take (k + 1)).map (fun c => xs.map fun x => c.getD (idx t.ids x) 0)) (w6.setCell ⟨s, 2, none⟩ (.slice a6 l6 c6))) := by
        have := HJ.out.col g1 g2
        rw [takeC (by rw [HH.out.1]; exact hlt), List.map_append]
        exact this
      clear HJ g1 g2 HCl
      go_wp2
      go_roundw
      case rel => exact ⟨k + 1, _, by go_num, hlt, HJ2.out⟩
      case measure => simp [intOf]; omega
    · obtain rfl : k = l2 := by omega
      have HJ2 : Hid (TkAt X g R s ⟨p0, l0, q0, p1, l1, q1, p2, k, q2⟩ u0 u' (t.cols.map (fun c => xs.map fun x => c.getD (idx t.ids x) 0)) wr) := by
        have := hJ
        rw [show t.cols.take k = t.cols from List.take_of_length_le (by rw [HH.out.1]; exact Nat.le_refl _)] at this
        exact this
      clear hJ
      go_wp2_with fail
      first
        | exact e2 _ _ (HN.out _ _ _ _ _ _ _ _ _ _ _ _ _ _ _ _ _ _ _ HJ2.out)
        | exact HN.out _ _ _ _ _ _ _ _ _ _ _ _ _ _ _ _ _ _ _ HJ2.out

end Go.Proofs.Ytaiikhbfnfcalaa

namespace Go.Proofs.Ytaiikhbfnfcalaa
open Go.RowKit

set_option maxRecDepth 100000 in
theorem tx_ret {x0 x1 x2 x3 x6 x7 x8 x9 x10 x11 x12 x13 x14 x15 x16 x17 x18 x19 x20 x21 x22 x23 x24 x25 x26 x27 x28 x29 x30 x31 x32 x33 x34 x35 x36 x37 x38 x39 x40 x41 x42 x43 x44 x45 x46 x47 x48 x49 x50 x51 x52 : Value} {R : Nat} {u : TV} {er : Int} {post : Ending → World → Prop} {W : World} (hr : TVar W R u) (h : post (.returned (.tuple #[.agg #[.slice u.p0 u.l0 u.c0, .slice u.p1 u.l1 u.c1, .slice u.p2 u.l2 u.c2], .int .i64 er])) W) : bodyPost Try.prog Try.f15 post .ret ⟨#[x0, x1, x2, x3, .pointer (some ⟨R, 0, none⟩), .int .i64 er, x6, x7, x8, x9, x10, x11, x12, x13, x14, x15, x16, x17, x18, x19, x20, x21, x22, x23, x24, x25, x26, x27, x28, x29, x30, x31, x32, x33, x34, x35, x36, x37, x38, x39, x40, x41, x42, x43, x44, x45, x46, x47, x48, x49, x50, x51, x52], []⟩ W := by
  obtain ⟨r0, r1, r2, -⟩ := hr.cells
  exact bodyPost_ret (v := .tuple #[.agg #[.slice u.p0 u.l0 u.c0, .slice u.p1 u.l1 u.c1, .slice u.p2 u.l2 u.c2], .int .i64 er]) (by simp [results, Try.results15, go_sem, r0, r1, r2]) rfl h

set_option maxRecDepth 100000 in
set_option maxHeartbeats 3200000 in
theorem x15take_any (v : TV) (t : Tab) (p : Option Addr) (l c : Nat) (xs : List Int) (w : World) (ht : TabAt w v t) (hL : Lsts w p l c xs) : Calls Try.prog 15 #[.agg #[.slice v.p0 v.l0 v.c0, .slice v.p1 v.l1 v.c1, .slice v.p2 v.l2 v.c2], .slice p l c] w fun e w' => TakT15 t xs w e w' := by
  have hlen := hL.hlen
  have hbl := ht.bins.hlen
  have hil := ht.ids.hlen
  have hb0 := bthen (balloc w (.cells v.cells 25)) (balloc _ (.cells TV.none.cells 25))
  have hv0 := (TVar.new w v).below (balloc _ (.cells TV.none.cells 25))
  have hr0 : TVar ((w.alloc (.cells v.cells 25)).alloc (.cells TV.none.cells 25)) (w.heap.size + 1) TV.none := (TVar.new _ TV.none).at15 (by simp)
  have hNone : ∀ (W : World), TVar W (w.heap.size + 1) TV.none → Below w.heap.size w W → ¬ TakeOk t xs → TVar (((W.setCell ⟨w.heap.size + 1, 0, none⟩ (.slice none 0 0)).setCell ⟨w.heap.size + 1, 1, none⟩ (.slice none 0 0)).setCell ⟨w.heap.size + 1, 2, none⟩ (.slice none 0 0)) (w.heap.size + 1) TV.none ∧ TakT15 t xs w (.returned (.tuple #[.agg #[.slice TV.none.p0 TV.none.l0 TV.none.c0, .slice TV.none.p1 TV.none.l1 TV.none.c1, .slice TV.none.p2 TV.none.l2 TV.none.c2], .int .i64 20])) (((W.setCell ⟨w.heap.size + 1, 0, none⟩ (.slice none 0 0)).setCell ⟨w.heap.size + 1, 1, none⟩ (.slice none 0 0)).setCell ⟨w.heap.size + 1, 2, none⟩ (.slice none 0 0)) := fun W hv hb hno =>
    ⟨put3_var TV.none hv, TV.none, Tab.none, 20, rfl, TabF.none _ _, .inl ⟨hno, rfl, rfl⟩, hb.trans ((put3_only (g := w.heap.size + 1) _ _ _).below15 (Nat.le_succ _) hb.size)⟩
  go_enter Try.func15, Try.ntmps15
  refine pcSeq (fun Q0 n0 r0 _ => tx_p0 ?_)
  intros
  refine n0 _ _ (pcSeq (fun Q1 n1 r1 _ => tx_p1 hr0 hv0 (ht.below hb0) (hL.below hb0) ?_ ?_))
  · intro w2
    intros
    rename_i htab hids hb2'
    have hb2 := bthen hb0 hb2'
    have hv2 := hv0.below hb2'
    have hr2 := hr0.below hb2'
    have f1 := hids.few
    have f2 := htab.few
    have f3 := htab.len
    have f4 := htab.ids.few
    refine n1 _ _ (pcSeq (fun Q3 n3 r3 _ => tx_p3 hv2 (hL.below hb2) (ht.below hb2).ids (by omega) (by omega) htab.ids.nod ?_))
    intro pa pl pk z w3
    intros
    rename_i hz hP hb3'
    have hb3 := bthen hb2 hb3'
    have hv3 := hv2.below hb3'
    have hr3 := hr2.below hb3'
    refine n3 _ _ (pcSeq (fun Q4 n4 r4 _ => tx_p4 hr3 ?_ ?_))
    · intros
      rename_i hzt
      have hok : TakeOk t xs := ⟨htab, hids, hz.1 hzt⟩
      have hPl := hP hzt
      refine n4 _ _ (pcSeq (fun Q5 n5 r5 _ => tx_p6 hv3 (hL.below hb3) (ht.bins.below hb3) (by omega) (by omega) ?_))
      intro u s X
      intros
      rename_i k1 k2 k3 k4 k5 k6 k7 k8
      have hbX := bthen hb3 k8
      have hRs : w.heap.size + 1 ≠ s := by have := hr3.lt; omega
      have hgs : w.heap.size ≠ s := by have := hv3.lt; omega
      have hsw : w.heap.size ≤ s := by have := hv3.lt; omega
      have hJ : TkAt X w.heap.size (w.heap.size + 1) s v u u [] X := ⟨hv3.below k8, hr3.below k8, k1, ⟨rfl, rfl, rfl, rfl, rfl, rfl⟩, by rw [k4, k5, k6]; exact LHd.nil _ _, Only.refl _ _, k1.lt, hRs, hgs⟩
      have hw : ∀ W', Only (fun b => b = s) X W' → Below w.heap.size w W' := fun W' o => hbX.trans (o.below15 hsw hbX.size)
      have hPw : ∀ W', Only (fun b => b = s) X W' → Lsts W' pa pl pk (ints (xs.map (idx t.ids))) := fun W' o => hPl.below (k8.trans (o.below15 k7 k8.size))
      refine n5 _ _ (pcSeq (fun Q7 n7 r7 _ => tx_l0 ht hPw hok hw hJ ?_))
      intro u' wx
      intros
      rename_i hJ2
      refine n7 _ _ (tx_p12 hJ2.r hJ2.var ?_)
      intros
      have hbx := hw _ hJ2.only
      have ho := put3_only (W := wx) (g := w.heap.size + 1) (.slice u'.p0 u'.l0 u'.c0) (.slice u'.p1 u'.l1 u'.c1) (.slice u'.p2 u'.l2 u'.c2)
      have hXw := hbX.size
      have h3w := hb3.size
      obtain ⟨e1, e2, e3, e4, e5, e6⟩ := hJ2.u0
      refine tx_ret (put3_var u' hJ2.r) ⟨u', t.take xs, 0, rfl, ⟨?_, ?_, hJ2.cols.rowVar hJ2.r ho, fun ad e => ?_, fun ad i p' n k e hi hc a ea => ?_⟩, .inr ⟨hok, rfl, rfl⟩, hbx.trans (ho.below15 (Nat.le_succ _) hbx.size)⟩
      · rw [← e1, ← e2, ← e3] at k2
        exact ⟨lsts_var (lsts_only15 k2.1 hJ2.only (fun ad e => (k2.2 ad e).2)) hJ2.r ho, fun ad e => Nat.le_trans h3w (k2.2 ad e).1⟩
      · rw [← e4, ← e5, ← e6] at k3
        exact ⟨lsts_var (lsts_only15 k3.1 hJ2.only (fun ad e => (k3.2 ad e).2)) hJ2.r ho, fun ad e => Nat.le_trans h3w (k3.2 ad e).1⟩
      · exact Nat.le_trans hXw (hJ2.cols.own ad.block (by rw [e]; rfl)).2.1
      · have hlt := (hJ2.cols.own ad.block (by rw [e]; rfl)).2.2
        have hne : ¬ ad.block = w.heap.size + 1 := fun q => rows_var hJ2.cols hJ2.r (by rw [e, ← q]; rfl)
        have hc2 : wx.cell? ⟨ad.block, ad.off + i, none⟩ = some (.slice p' n k) := (World.cell?_of_block (a := ⟨ad.block, ad.off + i, none⟩) (ho.block ad.block hlt hne)).symm.trans hc
        exact Nat.le_trans hXw (hJ2.cols.ent15 ad i p' n k e hi hc2 a ea).2
    · intros
      rename_i hzf
      obtain ⟨z1, z2⟩ := hNone w3 hr3 hb3 (fun h => by have := hz.2 h.has; rw [hzf] at this; cases this)
      exact r4 _ _ (tx_ret (u := TV.none) z1 z2)
  · intro w2
    intros
    rename_i hno hb2'
    obtain ⟨z1, z2⟩ := hNone w2 (hr0.below hb2') (bthen hb0 hb2') (fun h => hno ⟨h.tab, h.idl⟩)
    exact r1 _ _ (tx_ret (u := TV.none) z1 z2)
end Go.Proofs.Ytaiikhbfnfcalaa

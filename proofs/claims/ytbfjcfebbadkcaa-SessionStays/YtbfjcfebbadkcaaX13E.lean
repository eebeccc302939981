/-
  The program's session: the contract of Take.
-/
import Derived.Test.YtbfjcfebbadkcaaX13D
namespace Go.Proofs.Ytbfjcfebbadkcaa
open Go.RowKit

theorem wvo_of (x : Option (Nat × List Int)) : ∃ t f, wvo x = .agg (wcells t f) ∧ ((x = none ∧ f = fun _ => false) ∨ ∃ y, x = some y ∧ f = kb y.2) := by
  cases x with
  | none => exact ⟨0, fun _ => false, rfl, .inl ⟨rfl, rfl⟩⟩
  | some x => exact ⟨_, _, rfl, .inr ⟨x, rfl, rfl⟩⟩
theorem takes_is {st : SS} {p k : Int} {f : Nat → Bool} (hk : ∀ q x, st.waits q = some x → kindsOk x.2 = true) (h : (st.waits p.toNat = none ∧ f = fun _ => false) ∨ ∃ y, st.waits p.toNat = some y ∧ f = kb y.2) : (kndB k && f k.toNat) = st.takes p k := by
  unfold SS.takes
  rcases h with ⟨h1, h2⟩ | ⟨y, h1, h2⟩
  · rw [h1, h2, Bool.and_false]
  · rw [h1, h2]
    have h3 := hk _ _ h1
    unfold kindsOk at h3
    rw [List.all_eq_true] at h3
    unfold kb kndB
    by_cases hr : 1 ≤ k ∧ k ≤ 11
    · have e : ((k.toNat : Nat) : Int) = k := by omega
      rw [e, decide_eq_true hr, Bool.true_and]
    · rw [decide_eq_false hr, Bool.false_and]
      symm
      apply decide_eq_false
      intro e
      have := h3 k e
      simp at this
      exact hr this
theorem wcells_range (w : World) (t : Int) (f : Nat → Bool) {b : Nat} (h : w.heap[b]? = some (.cells (wcells t f) 70 (0, 0))) : w.rangeAt b 1 (kcells f).toList := fun j v hv => by
  rw [cell_of_row _ _ _ _ _ _ h]
  have : (wcells t f).toList = .int .i64 t :: (kcells f).toList := rfl
  rw [← Array.getElem?_toList, this, Nat.add_comm]
  exact hv
theorem wpList_store_wait {ops : Array Oper} {rest : List Oper} {o : Oper} {a : Act} {Q : Exit → Act → World → Prop} (hgd : o.guard = none) (x y : Operand) (ho : o.op = .store 70 x y)
    (hd : o.dst = none) (w V : World) (c0 cells : Array Value) (hV : V = awW w cells) (hx : a.eval x = .pointer (some ⟨w.heap.size, 0, none⟩)) (hy : a.eval y = .agg cells)
    (hi : (Try.prog.info? 70).map (·.size) = some cells.size) (hold : c0.size = cells.size) (h1 : cells.all (·.oneCell') = true)
    (h : wpList Try.prog ops Q rest a V) : wpList Try.prog ops Q (o :: rest) a (w.alloc (.cells c0 70)) := by
  subst hV
  rw [← awW_row w c0 cells] at h
  exact wpList_store_rowTo hgd 70 x y ho hd w.heap.size cells hx hy 70 c0 (heap_alloc_new _ _) hi hold h1 h
set_option maxRecDepth 20000 in
set_option maxHeartbeats 3200000 in
theorem p13take_any (g : Nat) (st : SS) (T : Nat → Prop) (p k a b c : Int) (pi pr pn : Option Addr) (li ci lr cr ln cn : Nat) (w : World) (h : PSes w g st T) : Calls Try.prog 17 #[.pointer (some ⟨g, 0, none⟩), .int .i64 p, .agg #[.int .i64 k, .int .i64 a, .int .i64 b, .int .i64 c, .slice pi li ci, .slice pr lr cr, .slice pn ln cn]] w fun e w' => e = .returned (.int .i64 (st.takeE p k)) ∧ SesT13 PSes w g (st.take p k a) T w' := by
  obtain ⟨m, h⟩ := h
  obtain ⟨V, hV⟩ : ∃ V, V = w.alloc (.cells #[.int .i64 k, .int .i64 a, .int .i64 b, .int .i64 c, .slice pi li ci, .slice pr lr cr, .slice pn ln cn] 54) := ⟨_, rfl⟩
  have HV : Hid (V = w.alloc (.cells #[.int .i64 k, .int .i64 a, .int .i64 b, .int .i64 c, .slice pi li ci, .slice pr lr cr, .slice pn ln cn] 54)) := hV
  have n0 : V.heap[w.heap.size]? = some (.cells #[.int .i64 k, .int .i64 a, .int .i64 b, .int .i64 c, .slice pi li ci, .slice pr lr cr, .slice pn ln cn] 54 (0, 0)) := by rw [hV]; exact heap_alloc_new _ _
  have hB : Below w.heap.size w V := by rw [hV]; exact balloc _ _
  have HB : Hid (Below w.heap.size w V) := hB
  have H : Hid (PSesV V g m st T) := h.below hB
  have HR := (show Hid _ from p13ref_any H.out)
  have m0 : V.cell? ⟨w.heap.size, 0, none⟩ = some (.int .i64 k) := by rw [cell_of_row _ _ _ _ _ _ n0]; rfl
  have m1 : V.cell? ⟨w.heap.size, 1, none⟩ = some (.int .i64 a) := by rw [cell_of_row _ _ _ _ _ _ n0]; rfl
  have m2 : V.cell? ⟨w.heap.size, 2, none⟩ = some (.int .i64 b) := by rw [cell_of_row _ _ _ _ _ _ n0]; rfl
  have m3 : V.cell? ⟨w.heap.size, 3, none⟩ = some (.int .i64 c) := by rw [cell_of_row _ _ _ _ _ _ n0]; rfl
  have m4 : V.cell? ⟨w.heap.size, 4, none⟩ = some (.slice pi li ci) := by rw [cell_of_row _ _ _ _ _ _ n0]; rfl
  have m5 : V.cell? ⟨w.heap.size, 5, none⟩ = some (.slice pr lr cr) := by rw [cell_of_row _ _ _ _ _ _ n0]; rfl
  have m6 : V.cell? ⟨w.heap.size, 6, none⟩ = some (.slice pn ln cn) := by rw [cell_of_row _ _ _ _ _ _ n0]; rfl
  obtain ⟨G, hG⟩ : ∃ G, G = w.heap.size := ⟨_, rfl⟩
  rw [← hG] at m0 m1 m2 m3 m4 m5 m6 n0
  have HG : Hid (w.heap.size = G) := hG.symm
  have hGV : G < V.heap.size := (Array.getElem?_eq_some_iff.1 n0).1
  clear h hV hB hG
  by_cases h0 : st.phase = 0
  case neg =>
    have HE : Hid (st.takeE p k = 17 ∧ st.take p k a = st) := by
      unfold SS.takeE SS.take
      rw [if_pos h0, if_pos h0]
      exact ⟨rfl, rfl⟩
    have HR2 : Hid (refE st.phase = 17) := by show _ = _; unfold refE; rw [if_pos h0]
    rw [HR2.out] at HR
    clear h0 HR2 m0 m1 m2 m3 m4 m5 m6
    go_enter Try.func17, Try.ntmps17
    go_wp2_with fail
    rw [← HV.out, HG.out]
    refine Calls.mono HR.out ?_
    rintro e w1 ⟨rfl, rfl⟩
    go_wp2
    go_ret
    exact ⟨by rw [HE.out.1]; rfl, by rw [HE.out.2]; exact SesT13.on H.out (Only.of_below HB.out)⟩
  have HR2 : Hid (refE st.phase = 0) := by show _ = _; unfold refE; rw [if_neg (by omega)]
  rw [HR2.out] at HR
  have HE : Hid ((st.takeE p k = if st.isPeer p = false then 1 else if k = 11 then 0 else if st.takes p k = true then 0 else 18) ∧ (st.take p k a = if st.isPeer p = false then st else if k = 11 then st.over 2 (whyOf a) else if st.takes p k = true then st.put p.toNat none else st.over 2 18)) := by
    have hph : ¬ st.phase ≠ 0 := fun e => e h0
    unfold SS.takeE SS.take
    rw [if_neg hph, if_neg hph]
    exact ⟨rfl, rfl⟩
  have H0 : Hid (st.phase = 0) := h0
  have HP := (show Hid _ from p13peer_any H.out p)
  clear h0 HR2
  go_enter Try.func17, Try.ntmps17
  go_wp2_with fail
  rw [← HV.out, HG.out]
  refine Calls.mono HR.out ?_
  rintro e w0 ⟨rfl, rfl⟩
  clear HR HV
  go_wp2_with fail
  refine Calls.mono HP.out ?_
  rintro e w2 ⟨rfl, rfl⟩
  clear HP
  obtain ⟨Z, hZ⟩ : ∃ Z, Z = st.isPeer p := ⟨_, rfl⟩
  rw [← hZ]
  dsimp only
  cases Z with
  | false =>
    have HE2 : Hid (st.takeE p k = 1 ∧ st.take p k a = st) := by
      have e := HE.out
      rw [if_pos hZ.symm, if_pos hZ.symm] at e
      exact e
    clear HE hZ m0 m1 m2 m3 m4 m5 m6
    go_wp2
    go_ret
    exact ⟨by rw [HE2.out.1]; rfl, by rw [HE2.out.2]; exact SesT13.on H.out (Only.of_below HB.out)⟩
  | true =>
    have HZ : Hid (st.isPeer p = true) := hZ.symm
    have HE2 : Hid ((st.takeE p k = if k = 11 then 0 else if st.takes p k = true then 0 else 18) ∧ (st.take p k a = if k = 11 then st.over 2 (whyOf a) else if st.takes p k = true then st.put p.toNat none else st.over 2 18)) := by
      have e := HE.out
      have hz : ¬ st.isPeer p = false := by rw [HZ.out]; simp
      rw [if_neg hz, if_neg hz] at e
      exact e
    clear HE hZ
    by_cases h11 : k = 11
    · subst h11
      have HE3 : Hid (st.takeE p 11 = 0 ∧ st.take p 11 a = st.over 2 (whyOf a)) := by
        have e := HE2.out
        rw [if_pos rfl, if_pos rfl] at e
        exact e
      have HW := (show Hid _ from p13why_any 11 a b c pi li ci pr lr cr pn ln cn w2)
      clear HE2
      go_wp2_with fail
      refine Calls.mono HW.out ?_
      rintro e w3 ⟨rfl, hb3⟩
      clear HW
      dsimp only
      have HB3 : Hid (Below w.heap.size w w3) := bthen HB.out hb3
      have HN := (show Hid _ from p13end_any (H.out.below hb3) 2 (whyOf a) (by decide) (whyOf_le a))
      clear hb3
      go_wp2_with fail
      refine Calls.mono HN.out ?_
      rintro e w4 ⟨rfl, r1, r2⟩
      have HF : Hid (SesT13 PSes w g (st.over 2 (whyOf a)) T w4) := SesT13.on r1 ((Only.of_below HB3.out).trans r2 (fun _ e => .inl e))
      clear r1 r2 HN m0 m1 m2 m3 m4 m5 m6
      dsimp only
      go_wp2
      go_ret
      exact ⟨by rw [HE3.out.1]; rfl, by rw [HE3.out.2]; exact HF.out⟩
    · have k11 : (k == 11) = false := by simp [h11]
      have HE3 : Hid ((st.takeE p k = if st.takes p k = true then 0 else 18) ∧ (st.take p k a = if st.takes p k = true then st.put p.toNat none else st.over 2 18)) := by
        have e := HE2.out
        rw [if_neg h11, if_neg h11] at e
        exact e
      have hpe := (st.isPeer_iff p).1 HZ.out
      have hpar := H.out.fine.par
      obtain ⟨n, rfl⟩ : ∃ n : Nat, p = (n : Int) := ⟨p.toNat, by omega⟩
      have hn16 : n < 16 := by omega
      have hlook := H.out.waits.look1 (k := n) (by omega)
      obtain ⟨t', f, hwv, hf⟩ := wvo_of (st.waits n)
      rw [hwv] at hlook
      have HT : Hid ((kndB k && f k.toNat) = st.takes (n : Int) k) := takes_is H.out.kinds hf
      have hone := wcells_one t' f
      have hsz : (wcells t' f).size = 13 := rfl
      have HH2 : Hid (PSesV (awW w2 (wcells t' f)) g m st T) := H.out.alloc _
      have HB2 : Hid (Below w.heap.size w (awW w2 (wcells t' f))) := bthen HB.out (balloc _ _)
      have c4 : w2.cell? ⟨g, 4, none⟩ = some (.map (some m)) := H.out.cell 4
      have hiw : (Try.prog.info? 70).map (·.size) = some (wcells t' f).size := by rw [hsz]; exact info_wait
      have n2 := heap_alloc_new w2 (.cells (wcells 0 (fun _ => false)) 70)
      have hsz' : (wcells 0 (fun _ => false)).size = (wcells t' f).size := by rw [hsz]; rfl
      have n3 : (awW w2 (wcells t' f)).heap[w2.heap.size]? = some (.cells (wcells t' f) 70 (0, 0)) := heap_alloc_new _ _
      have hrg := wcells_range _ t' f n3
      have e0 : (awW w2 (wcells t' f)).cell? ⟨G, 0, none⟩ = some (.int .i64 k) := bkeep (balloc w2 _) m0 rfl
      have hl12 : (Try.prog.info? 63).map (·.size) = some (kcells f).toList.length := info_kinds
      obtain ⟨C, hC⟩ : ∃ C, C = wcells t' f := ⟨_, rfl⟩
      rw [← hC] at hlook hone hiw hsz' hrg e0 HH2 HB2
      obtain ⟨V3, hV3⟩ : ∃ V3, V3 = awW w2 C := ⟨_, rfl⟩
      rw [← hV3] at hrg e0 HH2 HB2
      have HV3 : Hid (V3 = awW w2 C) := hV3
      have HC := (show Hid _ from p13has_any f k V3)
      rw [HT.out] at HC
      have hta : (kcells f).toList.toArray = kcells f := rfl
      clear hwv hC hsz hpe hpar HE2 h11 hf n0 n2 n3 m1 m2 m3 m4 m5 m6 hV3
      go_wp2_with (first
        | refine wpList_store_wait rfl _ _ rfl rfl w2 V3 _ C HV3.out rfl rfl hiw hsz' hone ?_
        | refine wpList_load_mid rfl 63 _ rfl w2.heap.size 1 rfl (kcells f).toList _ hrg Try.underlying63 rfl hl12 ?_)
      refine Calls.mono HC.out ?_
      rintro e w3 ⟨rfl, hb3⟩
      clear HC hrg e0 hlook c4
      dsimp only
      have HB3 : Hid (Below w.heap.size w w3) := bthen HB2.out hb3
      have HH3 : Hid (PSesV w3 g m st T) := HH2.out.below hb3
      clear hb3 m0
      obtain ⟨Y, hY⟩ : ∃ Y, Y = st.takes (n : Int) k := ⟨_, rfl⟩
      rw [← hY]
      cases Y with
      | false =>
        have HE4 : Hid (st.takeE (n : Int) k = 18 ∧ st.take (n : Int) k a = st.over 2 18) := by
          have e := HE3.out
          have hz : ¬ st.takes (n : Int) k = true := by rw [← hY]; simp
          rw [if_neg hz, if_neg hz] at e
          exact e
        have HN := (show Hid _ from p13end_any HH3.out 2 18 (by decide) (by decide))
        clear HE3 hY HT
        go_wp2_with fail
        refine Calls.mono HN.out ?_
        rintro e w4 ⟨rfl, r1, r2⟩
        have HF : Hid (SesT13 PSes w g (st.over 2 18) T w4) := SesT13.on r1 ((Only.of_below HB3.out).trans r2 (fun _ e => .inl e))
        clear r1 r2 HN
        dsimp only
        go_wp2
        go_ret
        exact ⟨by rw [HE4.out.1]; rfl, by rw [HE4.out.2]; exact HF.out⟩
      | true =>
        have HE4 : Hid (st.takeE (n : Int) k = 0 ∧ st.take (n : Int) k a = st.put n none) := by
          have e := HE3.out
          rw [if_pos hY.symm, if_pos hY.symm] at e
          exact e
        obtain ⟨y, hy⟩ : ∃ y, st.waits n = some y := by
          have e := hY.symm
          unfold SS.takes at e
          rw [show st.waits (n : Int).toNat = st.waits n from rfl] at e
          cases q : st.waits n with
          | none => rw [q] at e; cases e
          | some y => exact ⟨y, rfl⟩
        obtain ⟨w4, r1, r2, r3⟩ := HH3.out.waits.del (k := n) (by omega) hy
        have d4 : w3.cell? ⟨g, 4, none⟩ = some (.map (some m)) := HH3.out.cell 4
        have HF : Hid (SesT13 PSes w g (st.put n none) T w4) := by
          obtain ⟨q1, q2⟩ := HH3.out.turn (st' := st.put n none) r2 r3 rfl (HH3.out.fine.put (fun y e => by cases e)) (fun q y e => by
            unfold SS.put at e
            dsimp only at e
            split at e
            · cases e
            · exact HH3.out.kinds q y e) (fun e => absurd H0.out e)
          exact SesT13.on q1 ((Only.of_below HB3.out).trans q2 (fun _ e => .inl e))
        clear HE3 hY HT hy r2 r3
        go_wp2
        go_ret
        exact ⟨by rw [HE4.out.1]; rfl, by rw [HE4.out.2]; exact HF.out⟩
end Go.Proofs.Ytbfjcfebbadkcaa

/-
  The program's session: the contract of Await.
-/
import Derived.Test.YtbfjcfebbadkcaaX13C
import Derived.Deep.WholeRow
import Derived.BigRegion
namespace Go.Proofs.Ytbfjcfebbadkcaa
open Go.RowKit

theorem info_wait : (Try.prog.info? 70).map (·.size) = some 13 := by kernel_rfl
theorem wvo_is (x : Option (Nat × List Int)) : ∃ t f, wvo x = .agg (wcells t f) := by
  cases x with
  | none => exact ⟨0, fun _ => false, rfl⟩
  | some x => exact ⟨_, _, rfl⟩
theorem PSesV.alloc {w : World} {g m : Nat} {st : SS} {T : Nat → Prop} (h : PSesV w g m st T) (o : Obj) : PSesV (w.alloc o) g m st T := h.below (balloc w o)
/-- The blocks that Await makes: a set of kinds, and what stood in the map. -/
def awV (w : World) (f : Nat → Bool) : World := w.alloc (.cells (kcells f) 63)
theorem awV_row (w : World) (f : Nat → Bool) (c : Array Value) : (w.alloc (.cells c 63)).setRow w.heap.size (kcells f) = awV w f := World.setRow_alloc_new w c _ _
def awW (w : World) (c : Array Value) : World := w.alloc (.cells c 70)
theorem awW_row (w : World) (c c' : Array Value) : (w.alloc (.cells c 70)).setRow w.heap.size c' = awW w c' := World.setRow_alloc_new w c _ _
set_option maxRecDepth 20000 in
set_option maxHeartbeats 3200000 in
theorem p13await_any (g : Nat) (st : SS) (T : Nat → Prop) (p : Int) (a : Option Addr) (l c : Nat) (ks : List Int) (w : World) (h : PSes w g st T) (hL : Lsts w a l c ks) : Calls Try.prog 15 #[.pointer (some ⟨g, 0, none⟩), .int .i64 p, .slice a l c] w fun e w' => e = .returned (.int .i64 (st.awaitE p ks)) ∧ SesT13 PSes w g (st.await p ks) T w' := by
  obtain ⟨m, h⟩ := h
  have HR := (show Hid _ from p13ref_any h)
  have H : Hid (PSesV w g m st T) := h
  clear h
  by_cases h0 : st.phase = 0
  case neg =>
    have HE : Hid (st.awaitE p ks = 17 ∧ st.await p ks = st) := by
      have e : st.awaitE p ks = 17 := by unfold SS.awaitE; rw [if_pos h0]
      exact ⟨e, by unfold SS.await; rw [e, if_neg (by decide)]⟩
    have HR2 : Hid (refE st.phase = 17) := by show _ = _; unfold refE; rw [if_pos h0]
    rw [HR2.out] at HR
    clear h0 HR2
    go_enter Try.func15, Try.ntmps15
    go_wp2_with fail
    refine Calls.mono HR.out ?_
    rintro e w1 ⟨rfl, rfl⟩
    go_wp2
    go_ret
    exact ⟨by rw [HE.out.1]; rfl, by rw [HE.out.2]; exact SesT13.on H.out (Only.refl _ _)⟩
  have HR2 : Hid (refE st.phase = 0) := by show _ = _; unfold refE; rw [if_neg (by omega)]
  rw [HR2.out] at HR
  have HE : Hid (st.awaitE p ks = if st.isPeer p = false then 1 else if ks.length = 0 then 1 else if kindsOk ks = false then 1 else if st.waitsFor p = true then 18 else 0) := by show _ = _; unfold SS.awaitE; rw [if_neg (by omega)]
  have HS := (show Hid _ from p13set_any a l c ks w hL)
  have hlc := hL.hcap
  have hlm := hL.hmax
  unfold maxLen at hlm
  have H0 : Hid (st.phase = 0) := h0
  clear h0 HR2 hL
  go_enter Try.func15, Try.ntmps15
  go_wp2_with fail
  refine Calls.mono HR.out ?_
  rintro e w0 ⟨rfl, rfl⟩
  clear HR
  go_wp2_with fail
  refine Calls.mono HS.out ?_
  rintro e w1 ⟨f, b, rfl, hb, hf, hbl⟩
  clear HS
  dsimp only
  have HB1 : Hid (Below w0.heap.size w0 w1) := hbl
  have HH1 : Hid (PSesV (awV w1 f) g m st T) := (H.out.below hbl).alloc _
  have HV : Hid (Below w0.heap.size w0 (awV w1 f)) := bthen hbl (balloc _ _)
  have n1 := heap_alloc_new w1 (.cells (kcells (fun _ => false)) 63)
  have HP := (show Hid _ from p13peer_any HH1.out p)
  cases b with
  | false =>
    have HE2 : Hid (st.awaitE p ks = 1 ∧ st.await p ks = st) := by
      have e : st.awaitE p ks = 1 := by
        rw [HE.out]
        split
        · rfl
        · split
          · rfl
          · split
            · rfl
            · rename_i q1 q2 q3
              simp [q2, q3] at hb
      exact ⟨e, by unfold SS.await; rw [e, if_neg (by decide)]⟩
    clear HE hb hf HP hbl
    go_wp2_with (refine wpList_store_rowTo rfl 63 _ _ rfl rfl w1.heap.size (kcells f) rfl rfl 63 _ n1 info_kinds rfl (kcells_one _) ?_)
    go_ret
    rw [awV_row]
    exact ⟨by rw [HE2.out.1]; rfl, by rw [HE2.out.2]; exact SesT13.on HH1.out (Only.of_below HV.out)⟩
  | true =>
    obtain rfl := hf rfl
    have HK : Hid (ks.length ≠ 0 ∧ kindsOk ks = true) := by
      have := hb.symm
      simp at this
      exact ⟨fun e => this.1 (List.eq_nil_of_length_eq_zero e), this.2⟩
    clear hb hf hbl
    go_wp2_with (refine wpList_store_rowTo rfl 63 _ _ rfl rfl w1.heap.size (kcells (kb ks)) rfl rfl 63 _ n1 info_kinds rfl (kcells_one _) ?_)
    rw [awV_row]
    refine Calls.mono HP.out ?_
    rintro e w2 ⟨rfl, rfl⟩
    clear HP n1
    dsimp only
    obtain ⟨Z, hZ⟩ : ∃ Z, Z = st.isPeer p := ⟨_, rfl⟩
    rw [← hZ]
    cases Z with
    | false =>
      have HE2 : Hid (st.awaitE p ks = 1 ∧ st.await p ks = st) := by
        have e : st.awaitE p ks = 1 := by rw [HE.out, if_pos hZ.symm]
        exact ⟨e, by unfold SS.await; rw [e, if_neg (by decide)]⟩
      clear HE hZ
      go_wp2
      go_ret
      exact ⟨by rw [HE2.out.1]; rfl, by rw [HE2.out.2]; exact SesT13.on HH1.out (Only.of_below HV.out)⟩
    | true =>
      have hpe := (st.isPeer_iff p).1 hZ.symm
      have hpar := HH1.out.fine.par
      obtain ⟨k, rfl⟩ : ∃ k : Nat, p = (k : Int) := ⟨p.toNat, by omega⟩
      have hk16 : k < 16 := by omega
      have hlook := HH1.out.waits.look (k := k) (by omega)
      obtain ⟨t', f', hwv⟩ := wvo_is (st.waits k)
      obtain ⟨o, ho⟩ : ∃ o, o = (st.waits k).isSome := ⟨_, rfl⟩
      rw [hwv, ← ho] at hlook
      have hone := wcells_one t' f'
      have hsz : (wcells t' f').size = 13 := rfl
      obtain ⟨C, hC⟩ : ∃ C, C = wcells t' f' := ⟨_, rfl⟩
      rw [← hC] at hlook hone hsz
      have HH2 : Hid (PSesV (awW (awV w1 (kb ks)) C) g m st T) := HH1.out.alloc _
      have HV2 : Hid (Below w0.heap.size w0 (awW (awV w1 (kb ks)) C)) := bthen HV.out (balloc _ _)
      obtain ⟨V, hV⟩ : ∃ V, V = awV w1 (kb ks) := ⟨_, rfl⟩
      have HVe : Hid (V = awV w1 (kb ks)) := hV
      have c4 : V.cell? ⟨g, 4, none⟩ = some (.map (some m)) := by rw [hV]; exact HH1.out.cell 4
      rw [← hV] at hlook HH2 HV2
      rw [← hV]
      have hiw : (Try.prog.info? 70).map (·.size) = some C.size := by rw [hsz]; exact info_wait
      have n2 := heap_alloc_new V (.cells (wcells 0 (fun _ => false)) 70)
      have hsz' : (wcells 0 (fun _ => false)).size = C.size := by rw [hsz]; rfl
      have HZ : Hid (st.isPeer (k : Int) = true) := hZ.symm
      clear hwv hC hsz hV hpe hpar hZ
      cases o with
      | true =>
        have HE2 : Hid (st.awaitE (k : Int) ks = 18 ∧ st.await (k : Int) ks = st) := by
          have e : st.awaitE (k : Int) ks = 18 := by
            rw [HE.out, if_neg (by rw [HZ.out]; simp), if_neg HK.out.1, if_neg (by rw [HK.out.2]; simp), if_pos (by unfold SS.waitsFor; exact ho.symm)]
          exact ⟨e, by unfold SS.await; rw [e, if_neg (by decide)]⟩
        clear HE ho
        go_wp2_with (refine wpList_store_rowTo rfl 70 _ _ rfl rfl V.heap.size C rfl rfl 70 _ n2 hiw hsz' hone ?_)
        go_ret
        rw [awW_row]
        exact ⟨by rw [HE2.out.1]; rfl, by rw [HE2.out.2]; exact SesT13.on HH2.out (Only.of_below HV2.out)⟩
      | false =>
        have HO : Hid (st.waits k = none) := by
          show _ = _
          cases q : st.waits k with
          | none => rfl
          | some x => rw [q] at ho; cases ho
        have HE2 : Hid (st.awaitE (k : Int) ks = 0 ∧ st.await (k : Int) ks = st.put k (some (st.now, ks))) := by
          have e : st.awaitE (k : Int) ks = 0 := by
            rw [HE.out, if_neg (by rw [HZ.out]; simp), if_neg HK.out.1, if_neg (by rw [HK.out.2]; simp), if_neg (by unfold SS.waitsFor; rw [show st.waits (k : Int).toNat = none from HO.out]; simp)]
          exact ⟨e, by unfold SS.await; rw [e, if_pos rfl]; rfl⟩
        clear HE ho
        go_wp2_with (refine wpList_store_rowTo rfl 70 _ _ rfl rfl V.heap.size C rfl rfl 70 _ n2 hiw hsz' hone ?_)
        rw [awW_row]
        obtain ⟨W, hW⟩ : ∃ W, W = awW V C := ⟨_, rfl⟩
        rw [← hW] at HH2 HV2
        rw [← hW]
        have hrow : ∀ j, j < 12 → W.cell? ⟨w1.heap.size, j, none⟩ = some (.bool (kb ks j)) := fun j hj => by
          have e1 : V.heap[w1.heap.size]? = some (.cells (kcells (kb ks)) 63 (0, 0)) := by rw [HVe.out]; exact heap_alloc_new _ _
          have e2 : W.heap[w1.heap.size]? = some (.cells (kcells (kb ks)) 63 (0, 0)) := by
            rw [hW]
            exact ((balloc V _).block _ (Array.getElem?_eq_some_iff.1 e1).1).trans e1
          rw [cell_of_row _ _ _ _ _ _ e2]
          exact kcells_get _ j hj
        have d0 : W.cell? ⟨w1.heap.size, 0, none⟩ = some (.bool (kb ks 0)) := hrow 0 (by decide)
        have d1 : W.cell? ⟨w1.heap.size, 1, none⟩ = some (.bool (kb ks 1)) := hrow 1 (by decide)
        have d2 : W.cell? ⟨w1.heap.size, 2, none⟩ = some (.bool (kb ks 2)) := hrow 2 (by decide)
        have d3 : W.cell? ⟨w1.heap.size, 3, none⟩ = some (.bool (kb ks 3)) := hrow 3 (by decide)
        have d4 : W.cell? ⟨w1.heap.size, 4, none⟩ = some (.bool (kb ks 4)) := hrow 4 (by decide)
        have d5 : W.cell? ⟨w1.heap.size, 5, none⟩ = some (.bool (kb ks 5)) := hrow 5 (by decide)
        have d6 : W.cell? ⟨w1.heap.size, 6, none⟩ = some (.bool (kb ks 6)) := hrow 6 (by decide)
        have d7 : W.cell? ⟨w1.heap.size, 7, none⟩ = some (.bool (kb ks 7)) := hrow 7 (by decide)
        have d8 : W.cell? ⟨w1.heap.size, 8, none⟩ = some (.bool (kb ks 8)) := hrow 8 (by decide)
        have d9 : W.cell? ⟨w1.heap.size, 9, none⟩ = some (.bool (kb ks 9)) := hrow 9 (by decide)
        have d10 : W.cell? ⟨w1.heap.size, 10, none⟩ = some (.bool (kb ks 10)) := hrow 10 (by decide)
        have d11 : W.cell? ⟨w1.heap.size, 11, none⟩ = some (.bool (kb ks 11)) := hrow 11 (by decide)
        have c3 : W.cell? ⟨g, 3, none⟩ = some (.int .i64 (st.now : Int)) := HH2.out.cell 3
        have e4 : W.cell? ⟨g, 4, none⟩ = some (.map (some m)) := HH2.out.cell 4
        have hD : PSesV W.drew g m st T := HH2.out.below (below_drewN (Below.refl _ W) 1)
        have BD : Below w0.heap.size w0 W.drew := bthen HV2.out (below_drewN (Below.refl _ W) 1)
        obtain ⟨w', r1, r2, r3⟩ := hD.waits.put (k := k) (by omega) HO.out (fun q y e => by have := (hD.fine.wai q y e).1; have := hD.fine.par; omega) (st.now, ks)
        have HF : Hid (SesT13 PSes w0 g (st.put k (some (st.now, ks))) T w') := by
          have hpe := (st.isPeer_iff (k : Int)).1 HZ.out
          obtain ⟨q1, q2⟩ := hD.turn (st' := st.put k (some (st.now, ks))) r2 r3 rfl (hD.fine.put (fun y e => by cases e; exact ⟨by omega, Nat.le_refl _, Nat.le_add_right _ _⟩)) (fun q y e => by
            unfold SS.put at e
            dsimp only at e
            split at e
            · cases e; exact HK.out.2
            · exact hD.kinds q y e) (fun e => absurd H0.out e)
          exact SesT13.on q1 ((Only.of_below BD).trans q2 (fun _ e => .inl e))
        unfold wv wcells at r1
        dsimp only at r1
        clear hrow c4 hiw n2 hsz' hone hlook hW hD BD r2 r3
        go_region
        all_goals
          go_wp2
          go_ret
          exact ⟨by rw [HE2.out.1]; rfl, by rw [HE2.out.2]; exact HF.out⟩
end Go.Proofs.Ytbfjcfebbadkcaa

/-
  The program's tables: what is asked of all lists; Align.
-/
import Derived.Test.YtaiikhbfnfcalaaBX15A
import Derived.Test.YtaiikhbfnfcalaaSortI
import Derived.Test.YtaiikhbfnfcalaaR15G
namespace Go.Proofs.Ytaiikhbfnfcalaa
open Go.RowKit

set_option maxRecDepth 20000 in
set_option maxHeartbeats 3200000 in
theorem x15eachl_any (a : Option Addr) (l c : Nat) (Ls : List (List Int)) (w : World) (h : IRows w a l c Ls) : Calls Try.prog 42 #[.slice a l c, .func (.func 23) #[] #[]] w fun e w' => ∃ r, e = .returned (.bool r) ∧ (r = true ↔ ∀ i, i < Ls.length → IdsOk (Ls.getD i [])) ∧ Below w.heap.size w w' := by
  have hm := h.hmax
  have hc := h.hcap
  unfold maxLen at hm
  have HL : Hid (Ls.length = l) := h.hlen
  have H : Hid (IRows w a l c Ls) := h
  clear h
  go_enter Try.func42, Try.ntmps42
  go_wp2
  go_loopw [9] (fun v9 wr => ∃ k : Nat, k ≤ l ∧ v9 = .int .i64 k ∧ Hid (∀ j, j < k → IdsOk (Ls.getD j [])) ∧ Hid (Below w.heap.size w wr)) (fun v9 _ => l - (intOf v9).toNat)
  case atStart => exact ⟨0, by omega, rfl, fun j hj => by omega, Below.refl _ _⟩
  case round =>
    obtain ⟨k, hk, rfl, HE, HB⟩ := hrel
    by_cases hlt : k < l
    · have hlti : (k : Int) < (l : Int) := by omega
      obtain ⟨b1, o1, p, n, q, rfl, c1, hLp⟩ := (H.out.below HB.out).at15 hlt
      have HC := (show Hid _ from x15ids_any p n q _ wr hLp)
      clear hLp
      go_wp2_with fail
      refine Calls.mono HC.out ?_
      rintro e w1 ⟨r, rfl, hr, hB1⟩
      have HR : Hid (r = true ↔ IdsOk (Ls.getD k [])) := hr
      have HB1 : Hid (Below w.heap.size w w1) := bthen HB.out hB1
      clear HC hr hB1
      cases r with
      | true =>
        have HN : Hid (∀ j, j < k + 1 → IdsOk (Ls.getD j [])) := fun j hj => by
          by_cases e : j = k
          · subst e
            exact HR.out.1 rfl
          · exact HE.out j (by omega)
        clear HE HR HB
        go_wp2
        go_roundw
        case rel => exact ⟨k + 1, by omega, by go_num, HN, HB1⟩
        case measure => simp [intOf]; omega
      | false =>
        have HF : Hid (¬ ∀ i, i < Ls.length → IdsOk (Ls.getD i [])) := fun q => by
          have := HR.out.2 (q k (by rw [HL.out]; exact hlt))
          cases this
        clear HE HR HB
        go_wp2
        go_ret
        exact ⟨false, rfl, ⟨fun e => (by cases e), fun e => absurd e HF.out⟩, HB1.out⟩
    · obtain rfl : k = l := by omega
      have HF : Hid (∀ i, i < Ls.length → IdsOk (Ls.getD i [])) := fun i hi => HE.out i (by rw [← HL.out]; exact hi)
      clear HE
      go_wp2
      go_ret
      exact ⟨true, rfl, ⟨fun _ => HF.out, fun _ => rfl⟩, HB.out⟩
/-- What is asked of all: how it is answered. -/
def AskT15 (n : Nat) (ok : Prop) (w : World) (e : Ending) (w' : World) : Prop := ∃ err : Int, e = .returned (.int .i64 err) ∧ ((¬ FewL n ∧ err = 1) ∨ (FewL n ∧ ¬ ok ∧ err = 20) ∨ (FewL n ∧ ok ∧ err = 0)) ∧ Below w.heap.size w w'
theorem idsAll15 (Ls : List (List Int)) : IdsAll Ls ↔ ∀ i, i < Ls.length → IdsOk (Ls.getD i []) := by
  constructor
  · intro h i hi
    exact h _ (by simp [List.getD, List.getElem?_eq_getElem hi])
  · intro h L hL
    obtain ⟨i, hi, rfl⟩ := List.getElem_of_mem hL
    simpa [List.getD, List.getElem?_eq_getElem hi] using h i hi
set_option maxRecDepth 20000 in
set_option maxHeartbeats 3200000 in
theorem x15askl_any (a : Option Addr) (l c : Nat) (Ls : List (List Int)) (w : World) (h : IRows w a l c Ls) : Calls Try.prog 26 #[.slice a l c, .func (.func 23) #[] #[]] w fun e w' => AskT15 l (IdsAll Ls) w e w' := by
  have hm := h.hmax
  have hc := h.hcap
  unfold maxLen at hm
  have HC := (show Hid _ from x15eachl_any a l c Ls w h)
  clear h
  by_cases h0 : l = 0
  · have hd : ((l : Int) == 0) = true := by simp [h0]
    have HF : Hid (¬ FewL l) := fun q => q.1 h0
    clear h0 HC
    go_enter Try.func26, Try.ntmps26
    go_wp2
    go_ret
    exact ⟨1, rfl, .inl ⟨HF.out, rfl⟩, Below.refl _ _⟩
  have hd : ((l : Int) == 0) = false := by simp [h0]
  by_cases h16 : 16 < l
  · have hd2 : decide ((16 : Int) < (l : Int)) = true := decide_eq_true (by omega)
    have HF : Hid (¬ FewL l) := fun q => by have := q.2; omega
    clear h0 HC h16
    go_enter Try.func26, Try.ntmps26
    go_wp2
    go_ret
    exact ⟨1, rfl, .inl ⟨HF.out, rfl⟩, Below.refl _ _⟩
  have hd2 : decide ((16 : Int) < (l : Int)) = false := decide_eq_false (by omega)
  have HW : Hid (FewL l) := ⟨h0, by omega⟩
  clear h0 h16
  go_enter Try.func26, Try.ntmps26
  go_wp2_with fail
  refine Calls.mono HC.out ?_
  rintro e w1 ⟨r, rfl, hr, hB1⟩
  have HB1 : Hid (Below w.heap.size w w1) := hB1
  have HR : Hid (r = true ↔ IdsAll Ls) := hr.trans (idsAll15 Ls).symm
  clear HC hr hB1
  cases r with
  | true =>
    have HF : Hid (IdsAll Ls) := HR.out.1 rfl
    clear HR
    go_wp2
    go_ret
    exact ⟨0, rfl, .inr (.inr ⟨HW.out, HF.out, rfl⟩), HB1.out⟩
  | false =>
    have HF : Hid (¬ IdsAll Ls) := fun q => by have := HR.out.2 q; cases this
    clear HR
    go_wp2
    go_ret
    exact ⟨20, rfl, .inr (.inl ⟨HW.out, HF.out, rfl⟩), HB1.out⟩
theorem count_nod15 {x : Int} : ∀ {L : List Int}, L.Nodup → L.count x ≤ 1 ∧ (L.count x = 1 ↔ x ∈ L)
  | [], _ => by simp
  | y :: L, h => by
    have ih := count_nod15 (x := x) (List.nodup_cons.1 h).2
    by_cases c : y = x
    · subst c
      have h0 : L.count y = 0 := List.count_eq_zero.2 (List.nodup_cons.1 h).1
      simp [h0]
    · have c' : ¬ x = y := fun e => c e.symm
      rw [List.count_cons_of_ne c]
      simp [c', ih]
theorem count_flat15 {x : Int} : ∀ {Ls : List (List Int)}, (∀ L, L ∈ Ls → L.Nodup) → Ls.flatten.count x ≤ Ls.length ∧ (Ls.flatten.count x = Ls.length ↔ ∀ L, L ∈ Ls → x ∈ L)
  | [], _ => by simp
  | L :: Ls, h => by
    obtain ⟨i1, i2⟩ := count_flat15 (x := x) (Ls := Ls) (fun M hM => h M (List.mem_cons_of_mem _ hM))
    obtain ⟨j1, j2⟩ := count_nod15 (x := x) (h L (List.mem_cons_self ..))
    rw [List.flatten_cons, List.count_append, List.length_cons]
    refine ⟨by omega, ⟨fun e M hM => ?_, fun q => ?_⟩⟩
    · rcases List.mem_cons.1 hM with rfl | hM
      · exact j2.1 (by omega)
      · exact i2.1 (by omega) M hM
    · have h1 := j2.2 (q L (List.mem_cons_self ..))
      have h2 := i2.2 (fun M hM => q M (List.mem_cons_of_mem _ hM))
      omega
theorem flat_len15 : ∀ {Ls : List (List Int)}, (∀ L, L ∈ Ls → L.length ≤ 256) → Ls.flatten.length ≤ 256 * Ls.length
  | [], _ => by simp
  | L :: Ls, h => by
    have i1 := flat_len15 (Ls := Ls) (fun M hM => h M (List.mem_cons_of_mem _ hM))
    have i2 := h L (List.mem_cons_self ..)
    rw [List.flatten_cons, List.length_append, List.length_cons]
    omega
/-- The ids of the first list that all have, before they are sorted. -/
def allOf15 (Ls : List (List Int)) (l : Nat) (P : List Int) : List Int := P.filter fun x => decide (Ls.flatten.count x = l)
theorem allOf_snoc15 (Ls : List (List Int)) (l : Nat) (P : List Int) (x : Int) : allOf15 Ls l (P ++ [x]) = allOf15 Ls l P ++ if Ls.flatten.count x = l then [x] else [] := by
  unfold allOf15
  rw [List.filter_append]
  by_cases c : Ls.flatten.count x = l <;> simp [c]
theorem isAlign15 {Ls : List (List Int)} {l : Nat} (hl : Ls.length = l) (hf : FewL l) (h : IdsAll Ls) : IsAlign Ls ((allOf15 Ls l (Ls.getD 0 [])).mergeSort leI) := by
  have h0 : 0 < Ls.length := by have := hf.1; omega
  have hm0 : Ls.getD 0 [] ∈ Ls := by simp [List.getD, List.getElem?_eq_getElem h0]
  have hn : (allOf15 Ls l (Ls.getD 0 [])).Nodup := (h _ hm0).nod.filter _
  have hp := List.mergeSort_perm (allOf15 Ls l (Ls.getD 0 [])) leI
  have tr : ∀ a b c : Int, leI a b = true → leI b c = true → leI a c = true := fun a b c h1 h2 => by simp only [leI, decide_eq_true_eq] at *; omega
  have tot : ∀ a b : Int, (leI a b || leI b a) = true := fun a b => by simp only [leI, Bool.or_eq_true, decide_eq_true_eq]; omega
  refine ⟨((List.pairwise_mergeSort tr tot _).and (hp.nodup_iff.2 hn)).imp (fun {a b} q => ?_), fun x => ?_⟩
  · obtain ⟨q1, q2⟩ := q
    simp only [leI, decide_eq_true_eq] at q1
    omega
  · rw [hp.mem_iff]
    unfold allOf15
    rw [List.mem_filter, decide_eq_true_eq, ← hl, (count_flat15 (x := x) (fun L hL => (h L hL).nod)).2]
    exact ⟨fun q => q.2, fun q => ⟨q _ hm0, q⟩⟩
set_option maxRecDepth 20000 in
set_option maxHeartbeats 6400000 in
theorem x15align_any (a : Option Addr) (l c : Nat) (Ls : List (List Int)) (w : World) (h : IRows w a l c Ls) : Calls Try.prog 12 #[.slice a l c] w fun e w' => AlignT15 Ls w e w' := by
  have hm := h.hmax
  have hc := h.hcap
  unfold maxLen at hm
  have HL : Hid (Ls.length = l) := h.hlen
  have H : Hid (∀ wx, Below w.heap.size w wx → IRows wx a l c Ls) := fun wx hb => h.below hb
  have HA := (show Hid _ from x15askl_any a l c Ls w h)
  clear h
  go_enter Try.func12, Try.ntmps12
  go_wp2_with fail
  refine Calls.mono HA.out ?_
  rintro e w1 ⟨err, rfl, herr, hB1⟩
  clear HA
  have BAD : Hid (∀ err : Int, (¬ FewL l ∧ err = 1) ∨ (FewL l ∧ ¬ IdsAll Ls ∧ err = 20) → AlignT15 Ls w (.returned (.tuple #[.slice none 0 0, .int .i64 err])) w1) := fun err q => by
    refine ⟨none, 0, 0, [], err, rfl, Lsts.nil _, fun _ e => (by cases e), ?_, hB1⟩
    unfold ResAlign
    rw [HL.out]
    rcases q with ⟨q1, q2⟩ | ⟨q1, q2, q3⟩
    · exact .inl ⟨q1, q2, rfl⟩
    · exact .inr (.inl ⟨q1, q2, q3, rfl⟩)
  have HB1 : Hid (Below w.heap.size w w1) := hB1
  clear hB1
  by_cases hok : FewL l ∧ IdsAll Ls
  case neg =>
    have hne : (err != 0) = true := by
      rcases herr with ⟨_, q⟩ | ⟨_, _, q⟩ | ⟨q1, q2, _⟩
      · rw [q]; rfl
      · rw [q]; rfl
      · exact absurd ⟨q1, q2⟩ hok
    have HF := (show Hid _ from BAD.out err (by
      rcases herr with q | q | ⟨q1, q2, _⟩
      · exact .inl q
      · exact .inr q
      · exact absurd ⟨q1, q2⟩ hok))
    clear BAD herr hok
    go_wp2
    exact bodyPost_ret (v := .tuple #[.slice none 0 0, .int .i64 err]) (by simp [results, Try.results12, go_sem]) rfl HF.out
  obtain rfl : err = 0 := by
    rcases herr with ⟨q1, _⟩ | ⟨_, q1, _⟩ | ⟨_, _, q⟩
    · exact absurd hok.1 q1
    · exact absurd hok.2 q1
    · exact q
  have HOk : Hid (FewL l ∧ IdsAll Ls) := hok
  have hl0 : 0 < l := Nat.pos_of_ne_zero hok.1.1
  have HCn := (show Hid _ from x15counts_any a l c Ls w1 (H.out w1 HB1.out) (by
    have := flat_len15 (Ls := Ls) (fun L hL => (hok.2 L hL).few)
    have h2 := hok.1.2
    rw [HL.out] at this
    omega))
  clear BAD herr hok
  go_wp2_with fail
  refine Calls.mono HCn.out ?_
  rintro e w2 ⟨b, N, rfl, hM, hb, hB2⟩
  clear HCn
  have HB2 : Hid (Below w.heap.size w w2) := bthen HB1.out hB2
  obtain ⟨b1, o1, p, n, q, rfl, c1, hLp⟩ := (H.out w2 HB2.out).at15 hl0
  have HM : Hid (∀ wx, Below w2.heap.size w2 wx → IntM wx b N (cnt15 Ls.flatten)) := fun wx hx => hM.below hx
  obtain ⟨L, hL⟩ : ∃ L, L = Ls.getD 0 [] := ⟨_, rfl⟩
  rw [← hL] at hLp
  have hnm := hLp.hmax
  have hnc := hLp.hcap
  unfold maxLen at hnm
  have HLn : Hid (L = Ls.getD 0 [] ∧ L.length = n ∧ n ≤ 256) := ⟨hL, hLp.hlen, by
    have h0 : 0 < Ls.length := by rw [HL.out]; exact hl0
    have := (HOk.out.2 (Ls.getD 0 []) (by simp [List.getD, List.getElem?_eq_getElem h0])).few
    rw [← hL, hLp.hlen] at this
    exact this⟩
  have HLp : Hid (∀ wx, Below w2.heap.size w2 wx → Lsts wx p n q L) := fun wx hx => hLp.below hx
  replace c1 : w2.cell? ⟨b1, o1, none⟩ = some (.slice p n q) := by simpa using c1
  clear hM hb hB2 hL hLp HB1
  go_wp2
  go_loopw [6, 20] (fun v6 v20 wr => ∃ k : Nat, k ≤ n ∧ v20 = .int .i64 k ∧ Hid (IOwn wr w2.heap.size v6 (allOf15 Ls l (L.take k))) ∧ Hid (Below w2.heap.size w2 wr)) (fun _ v20 _ => n - (intOf v20).toNat)
  case atStart => exact ⟨0, by omega, rfl, IOwn.nil _ _, Below.refl _ _⟩
  case round =>
    obtain ⟨k, hk, rfl, HO, HBr⟩ := hrel
    by_cases hlt : k < n
    · have hlti : (k : Int) < (n : Int) := by omega
      have hLq := HLp.out _ HBr.out
      have hwd := hLq.word
      obtain ⟨b2, o2, rfl, c2⟩ := hLq.cells (by omega)
      replace c2 := c2 k hlt
      have hkL : k < L.length := by rw [HLn.out.2.1]; exact hlt
      have htk := take_snoc15 hkL
      obtain ⟨x, hx⟩ : ∃ x, x = L.getD k 0 := ⟨_, rfl⟩
      have hxw := hwd x (by rw [hx]; exact mem_getD hkL)
      rw [← hx] at c2 htk
      have hlook := (HM.out _ HBr.out).look1 hxw
      rw [cnt_get15] at hlook
      obtain ⟨C, hC⟩ : ∃ C, C = Ls.flatten.count x := ⟨_, rfl⟩
      rw [← hC] at hlook
      have HC : Hid (allOf15 Ls l (L.take (k + 1)) = allOf15 Ls l (L.take k) ++ if C = l then [x] else []) := by
        show _ = _
        rw [htk, allOf_snoc15, hC]
      have HLen : Hid ((allOf15 Ls l (L.take k)).length < 1000000) := by
        have h1 := List.length_filter_le (fun x => decide (Ls.flatten.count x = l)) (L.take k)
        have h2 := HLn.out.2
        unfold allOf15
        rw [List.length_take] at h1
        show _ < _
        omega
      clear hLq hwd hkL htk hx hxw hC
      by_cases hCl : C = l
      · subst hCl
        have hqd : ((C : Int) == (C : Int)) = true := by simp
        have hlit := balloc wr (.cells #[.int .i64 x] 3)
        have hO2 := HO.out.alloc (.cells #[.int .i64 x] 3)
        have HB3 : Hid (Below w2.heap.size w2 (wr.alloc (.cells #[.int .i64 x] 3))) := bthen HBr.out hlit
        have hbs : w2.heap.size ≤ (wr.alloc (.cells #[.int .i64 x] 3)).heap.size := HB3.out.size
        have hlen := HLen.out
        clear HLen hlit HO
        go_wp2_with (at_builtin; refine wpList_appI1 _ rfl _ _ 22 rfl Try.underlying22 w2.heap.size _ _ rfl hO2 ⟨wr.heap.size, 0, none⟩ x rfl ?c1 hlen hbs ?_)
        intro v5 w5 hO5 hg5
        have HB5 : Hid (Below w2.heap.size w2 w5) := HB3.out.trans (hO2.low hg5 hbs)
        have HO5 : Hid (IOwn w5 w2.heap.size v5 (allOf15 Ls C (L.take (k + 1)))) := by
          show IOwn _ _ _ _
          rw [HC.out]
          first | rw [if_pos rfl] | rw [if_pos trivial]
          exact hO5
        clear hO2 hO5 hg5 HB3 hbs hlen HC HBr
        go_wp2
        go_roundw
        case rel => exact ⟨k + 1, by omega, by go_num, HO5, HB5⟩
        case measure => simp [intOf]; omega
      · have hqd : ((C : Int) == (l : Int)) = false := by simp; omega
        have HO5 : Hid (IOwn wr w2.heap.size u6 (allOf15 Ls l (L.take (k + 1)))) := by
          show IOwn _ _ _ _
          rw [HC.out, if_neg hCl, List.append_nil]
          exact HO.out
        clear HC HLen HO hCl
        go_wp2
        go_roundw
        case rel => exact ⟨k + 1, by omega, by go_num, HO5, HBr⟩
        case measure => simp [intOf]; omega
    · obtain rfl : k = n := by omega
      have HO2 : Hid (IOwn wr w2.heap.size u6 (allOf15 Ls l (Ls.getD 0 []))) := by
        have := HO.out
        rw [← HLn.out.2.1, List.take_length, HLn.out.1] at this
        exact this
      have HS := (show Hid _ from sortI_any HO2.out (by
        have h1 := List.length_filter_le (fun x => decide (Ls.flatten.count x = l)) (Ls.getD 0 [])
        have h2 := HLn.out
        unfold allOf15
        rw [← h2.1] at h1 ⊢
        omega))
      clear HO
      go_wp2_with fail
      refine Calls.mono HS.out ?_
      rintro e w3 ⟨rfl, hO3, hg3⟩
      have HF : Hid (AlignT15 Ls w (.returned (.tuple #[u6, .int .i64 0])) w3) := by
        have hal := isAlign15 HL.out HOk.out.1 HOk.out.2
        have h0 : 0 < Ls.length := by rw [HL.out]; exact hl0
        have hm0 : Ls.getD 0 [] ∈ Ls := by simp [List.getD, List.getElem?_eq_getElem h0]
        obtain ⟨pa, pc, e, hLs, -⟩ := hO3.lsts (fun x hx => by
          have := (HOk.out.2 _ hm0).rng x ((hal.mem x).1 hx _ hm0)
          omega)
        have hbr := bthen HBr.out (show Below wr.heap.size wr wr from Below.refl _ _)
        have hB3 : Below w.heap.size w w3 := by
          have h1 : Below w2.heap.size w2 w3 := HBr.out.trans (HO2.out.low hg3 HBr.out.size)
          exact bthen HB2.out h1
        subst e
        refine ⟨pa, _, pc, _, 0, rfl, hLs, fun ad e => ?_, .inr (.inr ⟨by rw [HL.out]; exact HOk.out.1, HOk.out.2, rfl, hal⟩), hB3⟩
        subst e
        have := (World.ownsRow.lt hO3 ad.block rfl).1
        have := HB2.out.size
        omega
      clear hO3 hg3 HS HO2
      dsimp only
      go_wp2
      exact bodyPost_ret (v := .tuple #[u6, .int .i64 0]) (by simp [results, Try.results12, go_sem]) rfl HF.out
end Go.Proofs.Ytaiikhbfnfcalaa

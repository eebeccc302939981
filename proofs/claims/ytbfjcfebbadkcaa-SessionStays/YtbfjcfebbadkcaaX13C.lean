/-
  The program's session: contracts of setOf, has, ago, reasonOf.
-/
import Derived.Test.YtbfjcfebbadkcaaX13B
import Derived.Great.BuildSlice
import Derived.Deep.MidRow
import Derived.Laws.ResultCell
namespace Go.Proofs.Ytbfjcfebbadkcaa
open Go.RowKit

theorem kb_take_next {ks : List Int} {k : Nat} (hk : k < ks.length) (n : Nat) (hn : ks.getD k 0 = (n : Int)) : (fun j => if j = n then true else kb (ks.take k) j) = kb (ks.take (k + 1)) := by
  funext j
  have e : ks.take (k + 1) = ks.take k ++ [(n : Int)] := by
    rw [List.take_add_one, ← hn]
    simp [List.getD, List.getElem?_eq_getElem hk]
  unfold kb
  rw [e]
  by_cases q : j = n
  · subst q
    simp
  · rw [if_neg q]
    have q' : ¬ (j : Int) = (n : Int) := by omega
    simp [q']
theorem kindsOk_next {ks : List Int} {k : Nat} (hk : k < ks.length) : kindsOk (ks.take (k + 1)) = (kindsOk (ks.take k) && kndB (ks.getD k 0)) := by
  have e : ks.take (k + 1) = ks.take k ++ [ks.getD k 0] := by
    rw [List.take_add_one]
    simp [List.getD, List.getElem?_eq_getElem hk]
  unfold kindsOk kndB
  rw [e, List.all_append]
  simp
theorem kinds_not13 {ks : List Int} {k : Nat} (hk : k < ks.length) (h : kndB (ks.getD k 0) = false) : kindsOk ks = false := by
  unfold kindsOk
  rw [List.all_eq_false]
  refine ⟨ks.getD k 0, ?_, ?_⟩
  · simp [List.getD, List.getElem?_eq_getElem hk]
  · unfold kndB at h
    simp at h ⊢
    omega
theorem info_kinds : (Try.prog.info? 63).map (·.size) = some 12 := by kernel_rfl
theorem results_row_tmp {P : Program} {fn : Func} {p u : Tmp} {ty : TypeId} (h : fn.results = #[.cell p ty, .tmp u]) (tmps : Array Value) (w : World) (g : Nat) (t : TypeId) (cs : Array Value) (fr : Nat × Nat) (d : TypeDesc)
    (hp : tmps.getD p undef = .pointer (some ⟨g, 0, none⟩)) (hg : w.heap[g]? = some (.cells cs t fr))
    (hu : P.underlying ty = some d) (hd : (match d with | .struct _ | .array _ _ => true | _ => false) = true) (hi : (P.info? ty).map (·.size) = some cs.size) :
    (results fn tmps).run P w = .ok (.tuple #[.agg cs, tmps.getD u undef]) w := by
  rw [results_cell_tmp h, hp]
  simp [asAddr, run_loadVar_row w g t ty cs fr d hg hu hd hi, Result.andThen]
/-- What setOf has come to. -/
structure SetI (w : World) (ks : List Int) (k : Nat) (wr : World) : Prop where
  ok : kindsOk (ks.take k) = true
  h0 : wr.heap[w.heap.size]? = some (.cells (kcells (fun _ => false)) 63 (0, 0))
  h1 : wr.heap[w.heap.size + 1]? = some (.cells (kcells (kb (ks.take k))) 63 (0, 0))
  below : Below w.heap.size w wr
theorem SetI.start (w : World) (ks : List Int) : SetI w ks 0 ((w.alloc (.cells (kcells (fun _ => false)) 63)).alloc (.cells (kcells (fun _ => false)) 63)) := by
  refine ⟨rfl, ?_, ?_, bthen (balloc _ _) (balloc _ _)⟩
  · rw [(balloc (w.alloc _) _).block w.heap.size (by simp)]
    exact heap_alloc_new _ _
  · have := heap_alloc_new (w.alloc (.cells (kcells (fun _ => false)) 63)) (.cells (kcells (fun _ => false)) 63)
    rw [show kb (ks.take 0) = fun _ => false from by funext j; simp [kb]]
    simpa using this
theorem SetI.next {w : World} {ks : List Int} {k : Nat} {wr : World} (h : SetI w ks k wr) (hk : k < ks.length) {n : Nat} (hn : ks.getD k 0 = (n : Int)) (hx : kndB (n : Int) = true) : SetI w ks (k + 1) (wr.setCell ⟨w.heap.size + 1, n, none⟩ (.bool true)) := by
  refine ⟨by rw [kindsOk_next hk, h.ok, hn, hx]; rfl, ?_, ?_, h.below.setCell (p := ⟨w.heap.size + 1, n, none⟩) (Nat.le_succ _) _⟩
  · rw [(grown_set wr (w.heap.size + 1) n _).block w.heap.size (Array.getElem?_eq_some_iff.1 h.h0).1 (by simp)]
    exact h.h0
  · rw [heap_setCell_same wr (w.heap.size + 1) n _ _ _ h.h1, kcells_set, kb_take_next hk n hn]
set_option maxRecDepth 20000 in
set_option maxHeartbeats 3200000 in
theorem p13set_any (a : Option Addr) (l c : Nat) (ks : List Int) (w : World) (h : Lsts w a l c ks) : Calls Try.prog 29 #[.slice a l c] w fun e w' => ∃ f b, e = .returned (.tuple #[.agg (kcells f), .bool b]) ∧ b = (decide (ks.length ≠ 0) && kindsOk ks) ∧ (b = true → f = kb ks) ∧ Below w.heap.size w w' := by
  have hm := h.hmax
  have hc := h.hcap
  unfold maxLen at hm
  have HL : Hid (ks.length = l) := h.hlen
  have H : Hid (Lsts w a l c ks) := h
  clear h
  go_enter Try.func29, Try.ntmps29
  go_wp2
  go_loopw [9] (fun v9 wr => ∃ k : Nat, k ≤ l ∧ v9 = .int .i64 k ∧ Hid (SetI w ks k wr)) (fun v9 _ => l - (intOf v9).toNat)
  case atStart => exact ⟨0, by omega, rfl, SetI.start w ks⟩
  case round =>
    obtain ⟨k, hk, rfl, HE⟩ := hrel
    by_cases hlt : k < l
    · have hlti : (k : Int) < (l : Int) := by omega
      have hkd : decide (k < l) = true := decide_eq_true hlt
      obtain ⟨b1, o1, rfl, c1⟩ := (H.out.below HE.out.below).cells (by omega)
      replace c1 := c1 k hlt
      obtain ⟨x, hx⟩ : ∃ x, x = ks.getD k 0 := ⟨_, rfl⟩
      rw [← hx] at c1
      have HX : Hid (x = ks.getD k 0) := hx
      have HC := (show Hid _ from p13knd_any x wr)
      have hkl : k < ks.length := by rw [HL.out]; exact hlt
      clear hx
      by_cases hr : 1 ≤ x ∧ x ≤ 11
      · have hrd : kndB x = true := decide_eq_true hr
        rw [hrd] at HC
        obtain ⟨n, rfl⟩ : ∃ n : Nat, x = (n : Int) := ⟨x.toNat, by omega⟩
        have hn0 : (0 : Int) ≤ (n : Int) := by omega
        have hn1 : (n : Int) < 12 := by omega
        have hn2 : n < 12 := by omega
        have HN : Hid (SetI w ks (k + 1) (wr.setCell ⟨w.heap.size + 1, n, none⟩ (.bool true))) := HE.out.next hkl HX.out.symm hrd
        have d1 : wr.cell? ⟨w.heap.size + 1, n, none⟩ = some (.bool (kb (ks.take k) n)) := by rw [cell_of_row _ _ _ _ _ _ HE.out.h1]; exact kcells_get _ n hn2
        have d2 : wr.frozen? ⟨w.heap.size + 1, n, none⟩ = false := frozen_of_row _ _ _ _ _ HE.out.h1
        clear HE hr hrd HX hkl hlt
        go_wp2_with fail
        refine Calls.mono HC.out ?_
        rintro e w1 ⟨rfl, rfl⟩
        clear HC
        go_wp2
        go_roundw
        case rel => exact ⟨k + 1, by omega, by go_num, HN.out⟩
        case measure => simp [intOf]; omega
      · have hrd : kndB x = false := decide_eq_false hr
        rw [hrd] at HC
        have HF : Hid (kindsOk ks = false) := kinds_not13 hkl (by rw [← HX.out]; exact hrd)
        have h0 := HE.out.h0
        have HB : Hid (Below w.heap.size w (wr.setRow w.heap.size (kcells (fun _ => false)))) := below_setRow HE.out.below (Nat.le_refl _) _
        have HG := setRow_heap wr w.heap.size _ (kcells (fun _ => false)) _ _ h0
        clear HE hr hrd HX hkl hlt
        go_wp2_with fail
        refine Calls.mono HC.out ?_
        rintro e w1 ⟨rfl, rfl⟩
        clear HC
        go_wp2_with (refine wpList_store_rowTo rfl 63 _ _ rfl rfl w.heap.size (kcells (fun _ => false)) rfl rfl 63 _ h0 info_kinds rfl (kcells_one _) ?_)
        refine bodyPost_ret (results_row_tmp rfl _ _ w.heap.size 63 (kcells (fun _ => false)) (0, 0) _ rfl HG Try.underlying63 rfl info_kinds) rfl ?_
        exact ⟨fun _ => false, false, rfl, by rw [HF.out, Bool.and_false], fun e => (by cases e), HB.out⟩
    · have hkd : decide (k < l) = false := decide_eq_false hlt
      obtain rfl : k = l := by omega
      have h0 := HE.out.h0
      have h1 := HE.out.h1
      have HF : Hid (kindsOk ks = true ∧ ks.take k = ks) := by
        have e : ks.take k = ks := List.take_of_length_le (by rw [HL.out]; exact Nat.le_refl _)
        exact ⟨by rw [← e]; exact HE.out.ok, e⟩
      obtain ⟨f, hf⟩ : ∃ f, f = kb (ks.take k) := ⟨_, rfl⟩
      rw [← hf] at h1
      have HB : Hid (Below w.heap.size w (wr.setRow w.heap.size (kcells f))) := below_setRow HE.out.below (Nat.le_refl _) _
      have HG := setRow_heap wr w.heap.size _ (kcells f) _ _ h0
      have HF2 : Hid (f = kb ks) := by show _ = _; rw [hf, HF.out.2]
      clear HE hlt hf
      go_wp2_with (first
        | refine wpList_load_row rfl 63 _ rfl (w.heap.size + 1) rfl 63 (kcells f) (0, 0) _ h1 Try.underlying63 rfl info_kinds ?_
        | refine wpList_store_rowTo rfl 63 _ _ rfl rfl w.heap.size (kcells f) rfl rfl 63 _ h0 info_kinds rfl (kcells_one _) ?_)
      refine bodyPost_ret (results_row_tmp rfl _ _ w.heap.size 63 (kcells f) (0, 0) _ rfl HG Try.underlying63 rfl info_kinds) rfl ?_
      refine ⟨f, decide (0 < k), rfl, ?_, fun _ => HF2.out, HB.out⟩
      rw [HF.out.1, HL.out, Bool.and_true]
      by_cases q : k = 0 <;> simp [q]; omega
set_option maxHeartbeats 800000 in
theorem p13has_any (f : Nat → Bool) (k : Int) (w : World) : Calls Try.prog 33 #[.agg (kcells f), .int .i64 k] w fun e w' => e = .returned (.bool (kndB k && f k.toNat)) ∧ Below w.heap.size w w' := by
  have hB := balloc w (.cells (kcells f) 63)
  have h1 := heap_alloc_new w (.cells (kcells f) 63)
  obtain ⟨V, hV⟩ : ∃ V, V = w.alloc (.cells (kcells f) 63) := ⟨_, rfl⟩
  rw [← hV] at hB h1
  have HV : Hid (V = w.alloc (.cells (kcells f) 63)) := hV
  have HC := (show Hid _ from p13knd_any k V)
  by_cases hr : 1 ≤ k ∧ k ≤ 11
  · have hrd : kndB k = true := decide_eq_true hr
    rw [hrd] at HC
    obtain ⟨n, rfl⟩ : ∃ n : Nat, k = (n : Int) := ⟨k.toNat, by omega⟩
    have hn0 : (0 : Int) ≤ (n : Int) := by omega
    have hn1 : (n : Int) < 12 := by omega
    have hn2 : n < 12 := by omega
    have d1 : V.cell? ⟨w.heap.size, n, none⟩ = some (.bool (f n)) := by rw [cell_of_row _ _ _ _ _ _ h1]; exact kcells_get _ n hn2
    have HE : Hid (f n = (kndB (n : Int) && f (n : Int).toNat)) := by show _ = _; rw [hrd]; rfl
    obtain ⟨K, hK⟩ : ∃ K, K = kcells f := ⟨_, rfl⟩
    rw [← hK] at HV
    rw [← hK]
    clear hr hrd h1 hV hK
    go_enter Try.func33, Try.ntmps33
    go_wp2_with fail
    rw [← HV.out]
    refine Calls.mono HC.out ?_
    rintro e w1 ⟨rfl, rfl⟩
    clear HC
    go_wp2
    go_ret
    exact ⟨ret_bool HE.out, hB⟩
  · have hrd : kndB k = false := decide_eq_false hr
    rw [hrd] at HC
    have HE : Hid (false = (kndB k && f k.toNat)) := by show _ = _; rw [hrd]; rfl
    obtain ⟨K, hK⟩ : ∃ K, K = kcells f := ⟨_, rfl⟩
    rw [← hK] at HV
    rw [← hK]
    clear hr hrd h1 hV hK
    go_enter Try.func33, Try.ntmps33
    go_wp2_with fail
    rw [← HV.out]
    refine Calls.mono HC.out ?_
    rintro e w1 ⟨rfl, rfl⟩
    clear HC
    go_wp2
    go_ret
    exact ⟨ret_bool HE.out, hB⟩
set_option maxHeartbeats 800000 in
theorem p13ago_any (t n : Nat) (w : World) (h1 : t ≤ n) (h2 : n ≤ 1073741824) : Calls Try.prog 39 #[.agg #[.int .i64 (t : Int)], .int .i64 (n : Int)] w fun e w' => e = .returned (.int .i64 ((n - t : Nat) : Int)) ∧ Below w.heap.size w w' := by
  have hB := balloc w (.cells #[.int .i64 (t : Int)] 68)
  have hw : IntKind.i64.wrap ((n : Int) - (t : Int)) = ((n - t : Nat) : Int) := by simp [IntKind.wrap, IntKind.signed, IntKind.bits]; omega
  obtain ⟨d, hd⟩ : ∃ d, d = n - t := ⟨_, rfl⟩
  rw [← hd] at hw
  rw [← hd]
  have hs : (n : Int) - (t : Int) = (d : Int) := by omega
  have hs2 : IntKind.i64.wrap (d : Int) = (d : Int) := by simp [IntKind.wrap, IntKind.signed, IntKind.bits]; omega
  clear hd h1 h2
  go_enter Try.func39, Try.ntmps39
  go_wp2
  go_ret
  exact ⟨rfl, hB⟩
set_option maxHeartbeats 800000 in
theorem p13why_any (k a b c : Int) (pi : Option Addr) (li ci : Nat) (pr : Option Addr) (lr cr : Nat) (pn : Option Addr) (ln cn : Nat) (w : World) : Calls Try.prog 32 #[.agg #[.int .i64 k, .int .i64 a, .int .i64 b, .int .i64 c, .slice pi li ci, .slice pr lr cr, .slice pn ln cn]] w fun e w' => e = .returned (.int .i64 (whyOf a : Int)) ∧ Below w.heap.size w w' := by
  have hB := balloc w (.cells #[.int .i64 k, .int .i64 a, .int .i64 b, .int .i64 c, .slice pi li ci, .slice pr lr cr, .slice pn ln cn] 54)
  have d1 : (w.alloc (.cells #[.int .i64 k, .int .i64 a, .int .i64 b, .int .i64 c, .slice pi li ci, .slice pr lr cr, .slice pn ln cn] 54)).cell? ⟨w.heap.size, 1, none⟩ = some (.int .i64 a) := by simp
  obtain ⟨V, hV⟩ : ∃ V, V = w.alloc (.cells #[.int .i64 k, .int .i64 a, .int .i64 b, .int .i64 c, .slice pi li ci, .slice pr lr cr, .slice pn ln cn] 54) := ⟨_, rfl⟩
  rw [← hV] at hB d1
  have HV : Hid (V = w.alloc (.cells #[.int .i64 k, .int .i64 a, .int .i64 b, .int .i64 c, .slice pi li ci, .slice pr lr cr, .slice pn ln cn] 54)) := hV
  have HC := (show Hid _ from p13rsn_any a V)
  clear hV
  by_cases hr : 1 ≤ a ∧ a ≤ 1000
  · have hrd : rsnB a = true := decide_eq_true hr
    rw [hrd] at HC
    have HE : Hid (a = (whyOf a : Int)) := by show _ = _; unfold whyOf; rw [if_pos hr]; omega
    clear hr hrd
    go_enter Try.func32, Try.ntmps32
    go_wp2_with fail
    rw [← HV.out]
    refine Calls.mono HC.out ?_
    rintro e w1 ⟨rfl, rfl⟩
    clear HC
    go_wp2
    go_ret
    exact ⟨ret_int HE.out, hB⟩
  · have hrd : rsnB a = false := decide_eq_false hr
    rw [hrd] at HC
    have HE : Hid (18 = (whyOf a : Int)) := by show _ = _; unfold whyOf; rw [if_neg hr]; rfl
    clear hr hrd
    go_enter Try.func32, Try.ntmps32
    go_wp2_with fail
    rw [← HV.out]
    refine Calls.mono HC.out ?_
    rintro e w1 ⟨rfl, rfl⟩
    clear HC
    go_wp2
    go_ret
    exact ⟨ret_int HE.out, hB⟩
end Go.Proofs.Ytbfjcfebbadkcaa

/-
  The program's tables: a map of whole numbers by whole numbers; how often each stands in a list, and where.
  The program's tables: contracts of isFrom, each (of whole numbers), counts, areIds, areBins. Written by mk/x15b.py.
  The program's tables: Right.
-/
import Derived.Test.YtaiikhbfnfcalaaR15A
import Derived.Maps.OwnSet
import Derived.BigQuiet
namespace Go.Proofs.Ytaiikhbfnfcalaa
open Go.RowKit Go.Maps

def tok15 (v : Value) : Option (DataW Value × List MemPlace) := some (.held v, [])
theorem key15 : Keyed Try.prog 3 := int_keyed Try.underlying3
def ikey15 (k : Int) : Lit := .int .i64 k
theorem ikey_of15 {k : Int} (h : -9223372036854775808 ≤ k ∧ k < 9223372036854775808) : keyOf Try.prog 3 (.int .i64 k) = some (ikey15 k) := keyOf_int_mk Try.underlying3 (WalkArith.wf_i64 (by omega))
theorem ikey_ne15 {k m : Int} (h : k ≠ m) : ikey15 k ≠ ikey15 m := fun e => h (by unfold ikey15 at e; injection e with _ e)
theorem ikey_lit15 (k : Int) : WideAt.IsKeyLit (ikey15 k) := trivial
/-- Block b is a map of whole numbers, of at most N keys. -/
def IntM (w : World) (b N : Nat) (m : Int → Option Int) : Prop :=
  ∃ (D : DataW Value) (ks : List Int), w.ownsMap Try.prog 3 tok15 b (size D) D ∧ ks.Nodup ∧ size D = ks.length ∧ ks.length ≤ N ∧ (∀ k, k ∈ ks ↔ m k ≠ none) ∧ (∀ k, m k = none → has D (ikey15 k) = false) ∧ ∀ k x, m k = some x → has D (ikey15 k) = true ∧ ∀ z, D.atKey (ikey15 k) z = .held (.int .i64 x)
theorem ownsMap_tight15 {w : World} {b n : Nat} {D : DataW Value} (h : w.ownsMap Try.prog 3 tok15 b n D) : w.ownsMap Try.prog 3 tok15 b (size D) D := by
  obtain ⟨es, clock, hb, F, hs, rfl⟩ := h
  exact ⟨es, clock, hb, F, by simp [Maps.size, length_sorted], rfl⟩
theorem IntM.new (w : World) : IntM (w.alloc (.map #[] 0)) w.heap.size 0 (fun _ => none) :=
  ⟨.map [], [], World.ownsMap_made w _ _ _, List.nodup_nil, rfl, Nat.le_refl _, fun k => by simp, fun k _ => rfl, fun k x e => by cases e⟩
theorem IntM.lt {w : World} {b N : Nat} {m : Int → Option Int} (h : IntM w b N m) : b < w.heap.size := by
  obtain ⟨D, ks, h1, _⟩ := h
  exact h1.lt
theorem IntM.block {w w' : World} {b N : Nat} {m : Int → Option Int} (h : IntM w b N m) (k : w'.heap[b]? = w.heap[b]?) : IntM w' b N m := by
  obtain ⟨D, ks, ⟨es, clock, hb, F, hs, hD⟩, h2⟩ := h
  exact ⟨D, ks, ⟨es, clock, k.trans hb, F, hs, hD⟩, h2⟩
theorem IntM.below {w w' : World} {b N : Nat} {m : Int → Option Int} (h : IntM w b N m) (k : Below w.heap.size w w') : IntM w' b N m := h.block (k.block b h.lt)
theorem zero_int15 (w : World) : (zeroValue 3).run Try.prog w = .ok (.int .i64 0) w := by kernel_rfl
theorem intM_is {m : Int → Option Int} {D : DataW Value} {v : Value} {ps : List MemPlace} (h5 : ∀ k, m k = none → has D (ikey15 k) = false) (h6 : ∀ k x, m k = some x → has D (ikey15 k) = true ∧ ∀ z, D.atKey (ikey15 k) z = .held (.int .i64 x)) {k : Int} (hv : tok15 v = some (D.atKey (ikey15 k) (.held (.int .i64 0)), ps)) : v = .int .i64 ((m k).getD 0) := by
  have hv' : D.atKey (ikey15 k) (.held (.int .i64 0)) = .held v := by
    unfold tok15 at hv
    have := congrArg (Option.map Prod.fst) hv
    simpa using this.symm
  cases q : m k with
  | none =>
    rw [atKey_of_not_has (h5 k q)] at hv'
    exact (DataW.held.inj hv').symm
  | some y =>
    rw [(h6 k y q).2] at hv'
    exact (DataW.held.inj hv').symm
/-- What a look tells. -/
theorem IntM.look {w : World} {b N : Nat} {m : Int → Option Int} (h : IntM w b N m) {k : Int} (hk : -9223372036854775808 ≤ k ∧ k < 9223372036854775808) : (Instr.lookup 50 (.map (some b)) (.int .i64 k) true).run Try.prog w = .ok (.tuple #[.int .i64 ((m k).getD 0), .bool (m k).isSome]) w := by
  obtain ⟨D, ks, h1, h2, h3, h4, h4', h5, h6⟩ := h
  obtain ⟨v, ps, hr, hv⟩ := h1.look_ok key15 Try.underlying50 (zero_int15 w) (zd := .held (.int .i64 0)) (zp := []) rfl (ikey_of15 hk)
  rw [hr, intM_is h5 h6 hv]
  cases q : m k with
  | none => rw [h5 k q]; rfl
  | some y => rw [(h6 k y q).1]; rfl
theorem IntM.look1 {w : World} {b N : Nat} {m : Int → Option Int} (h : IntM w b N m) {k : Int} (hk : -9223372036854775808 ≤ k ∧ k < 9223372036854775808) : (Instr.lookup 50 (.map (some b)) (.int .i64 k) false).run Try.prog w = .ok (.int .i64 ((m k).getD 0)) w := by
  obtain ⟨D, ks, h1, h2, h3, h4, h4', h5, h6⟩ := h
  obtain ⟨v, ps, hr, hv⟩ := h1.lookup key15 Try.underlying50 (zero_int15 w) (zd := .held (.int .i64 0)) (zp := []) rfl (ikey_of15 hk)
  rw [hr, intM_is h5 h6 hv]
/-- How many keys there are. -/
theorem IntM.len {w : World} {b N : Nat} {m : Int → Option Int} (h : IntM w b N m) : ∃ ks : List Int, (∀ ty, (Builtin.len_ #[50] ty #[.map (some b)]).run Try.prog w = .ok (.int .i64 (ks.length : Int)) w) ∧ ks.Nodup ∧ ∀ k, k ∈ ks ↔ m k ≠ none := by
  obtain ⟨D, ks, h1, h2, h3, h4, h4', h5, h6⟩ := h
  exact ⟨ks, fun ty => by rw [← h3]; exact h1.len Try.underlying50 ty, h2, h4'⟩
theorem IntM.congr {w : World} {b N : Nat} {m m' : Int → Option Int} (h : IntM w b N m) (e : ∀ k, m' k = m k) : IntM w b N m' := by
  obtain rfl : m' = m := funext e
  exact h
/-- A key's number is put. -/
theorem IntM.put {w : World} {b N : Nat} {m : Int → Option Int} (h : IntM w b N m) {k : Int} (hk : -9223372036854775808 ≤ k ∧ k < 9223372036854775808) (hN : N < 1000000000) (x : Int) :
    ∃ w', (Instr.mapUpdate 50 (.map (some b)) (.int .i64 k) (.int .i64 x)).run Try.prog w = .ok () w' ∧ w.grownBy w' (some b) ∧ IntM w' b (N + 1) (fun q => if q = k then some x else m q) := by
  obtain ⟨D, ks, h1, h2, h3, h4, h4', h5, h6⟩ := h
  obtain ⟨w', r1, r2, r3⟩ := h1.store key15 Try.underlying50 (by unfold maxLen; omega) (ikey_of15 hk) (d := .held (.int .i64 x)) (ps := []) rfl
  have ht := h1.tidy key15
  have hat : ∀ q y, (if q = k then some x else m q) = some y → has (D.put (ikey15 k) (.held (.int .i64 x))) (ikey15 q) = true ∧ ∀ z, (D.put (ikey15 k) (.held (.int .i64 x))).atKey (ikey15 q) z = .held (.int .i64 y) := fun q y hq => by
    by_cases c : q = k
    · subst c
      simp at hq
      subst hq
      exact ⟨has_put_same ht.isMap (ikey_lit15 q) _, fun z => atKey_put_same ht.isMap (ikey_lit15 q) _ z⟩
    · simp [c] at hq
      obtain ⟨x1, x2⟩ := h6 q y hq
      exact ⟨by rw [has_put_other (ikey_ne15 c)]; exact x1, fun z => by rw [atKey_put_other (ikey_ne15 c)]; exact x2 z⟩
  have hno : ∀ q, (if q = k then some x else m q) = none → has (D.put (ikey15 k) (.held (.int .i64 x))) (ikey15 q) = false := fun q hq => by
    by_cases c : q = k
    · simp [c] at hq
    · simp [c] at hq
      rw [has_put_other (ikey_ne15 c)]
      exact h5 q hq
  by_cases hm : m k = none
  · have hks : k ∉ ks := fun e => (h4' k).1 e hm
    refine ⟨w', r1, r3.grown, _, ks ++ [k], ownsMap_tight15 r2, ?_, ?_, ?_, fun q => ?_, hno, hat⟩
    · rw [List.nodup_append]
      refine ⟨h2, by simp, fun x hx y hy e => ?_⟩
      simp at hy
      subst hy
      subst e
      exact hks hx
    · rw [size_put ht, h5 k hm]
      simp [h3]
    · simp
      omega
    · by_cases c : q = k
      · simp [c]
      · simp [c, h4' q]
  · have hks : k ∈ ks := (h4' k).2 hm
    refine ⟨w', r1, r3.grown, _, ks, ownsMap_tight15 r2, h2, ?_, by omega, fun q => ?_, hno, hat⟩
    · obtain ⟨y, hy⟩ := Option.ne_none_iff_exists'.1 hm
      rw [size_put ht, (h6 k y hy).1, if_pos rfl, h3]
    · by_cases c : q = k
      · simp [c, hks]
      · simp [c, h4' q]
theorem nodup_sub15 : ∀ (ks xs : List Int), ks.Nodup → (∀ k, k ∈ ks → k ∈ xs) → ks.length ≤ xs.length
  | [], _, _, _ => Nat.zero_le _
  | k :: ks, xs, hn, h => by
    have h1 := nodup_sub15 ks (xs.erase k) (List.nodup_cons.1 hn).2 (fun q hq => by
      have hne : q ≠ k := fun e => (List.nodup_cons.1 hn).1 (e ▸ hq)
      exact (List.mem_erase_of_ne hne).2 (h q (List.mem_cons_of_mem _ hq)))
    have hk := h k (List.mem_cons_self ..)
    rw [List.length_erase_of_mem hk] at h1
    have := List.length_pos_of_mem hk
    simp
    omega
/-- As many keys as numbers: no two are the same. -/
theorem nodup_keys15 {ks xs : List Int} (hn : ks.Nodup) (h : ∀ k, k ∈ ks ↔ k ∈ xs) : ks.length = xs.length ↔ xs.Nodup := by
  constructor
  · intro e
    refine List.pairwise_iff_getElem.2 (fun i j hi hj hij q => ?_)
    have h1 := nodup_sub15 ks (xs.eraseIdx j) hn (fun k hk => by
      obtain ⟨p, hp, rfl⟩ := List.getElem_of_mem ((h k).1 hk)
      rw [List.mem_eraseIdx_iff_getElem]
      by_cases c : p = j
      · subst c
        exact ⟨i, hi, by omega, q⟩
      · exact ⟨p, hp, c, rfl⟩)
    rw [List.length_eraseIdx_of_lt hj] at h1
    omega
  · intro hx
    exact ((List.perm_ext_iff_of_nodup hn hx).2 h).length_eq
/-- How often numbers stand in a list. -/
def cnt15 (P : List Int) (x : Int) : Option Int := if x ∈ P then some (P.count x : Int) else none
theorem cnt_nil15 (x : Int) : cnt15 [] x = none := by simp [cnt15]
theorem cnt_get15 (P : List Int) (x : Int) : (cnt15 P x).getD 0 = (P.count x : Int) := by
  unfold cnt15
  split
  · rfl
  · rename_i h
    rw [List.count_eq_zero_of_not_mem h]
    rfl
theorem cnt_more15 (P : List Int) (x q : Int) : cnt15 (P ++ [x]) q = if q = x then some ((P.count x : Int) + 1) else cnt15 P q := by
  unfold cnt15
  by_cases c : q = x
  · subst c
    simp [List.count_append]
  · have e : List.count q [x] = 0 := by rw [List.count_eq_zero]; simpa using c
    simp [c, List.count_append, e]
theorem cnt_some15 (P : List Int) (x : Int) : cnt15 P x ≠ none ↔ x ∈ P := by
  unfold cnt15
  by_cases h : x ∈ P <;> simp [h]
/-- Where numbers stand. -/
def plc15 (P : List Int) (x : Int) : Option Int := if x ∈ P then some (idx P x : Int) else none
theorem idx_left15 {x : Int} : ∀ {P S : List Int}, x ∈ P → idx (P ++ S) x = idx P x
  | [], _, h => by cases h
  | y :: P, S, h => by
    show (if y = x then 0 else idx (P ++ S) x + 1) = if y = x then 0 else idx P x + 1
    by_cases c : y = x
    · rw [if_pos c, if_pos c]
    · rw [if_neg c, if_neg c]
      rcases List.mem_cons.1 h with e | e
      · exact absurd e.symm c
      · rw [idx_left15 e]
theorem idx_new15 {x : Int} : ∀ {P : List Int}, x ∉ P → idx (P ++ [x]) x = P.length
  | [], _ => by simp [idx]
  | y :: P, h => by
    show (if y = x then 0 else idx (P ++ [x]) x + 1) = _
    rw [if_neg (fun e => h (by rw [e]; exact List.mem_cons_self ..)), idx_new15 (fun e => h (List.mem_cons_of_mem _ e))]
    rfl
theorem plc_more15 (P : List Int) (x q : Int) (hx : x ∉ P) : plc15 (P ++ [x]) q = if q = x then some (P.length : Int) else plc15 P q := by
  unfold plc15
  by_cases c : q = x
  · subst c
    simp [idx_new15 hx]
  · by_cases h : q ∈ P
    · simp [c, h, idx_left15 h]
    · simp [c, h]
theorem take_snoc15 {xs : List Int} {k : Nat} (hk : k < xs.length) : xs.take (k + 1) = xs.take k ++ [xs.getD k 0] := by
  rw [List.take_succ_eq_append_getElem hk]
  simp [List.getD, List.getElem?_eq_getElem hk]
end Go.Proofs.Ytaiikhbfnfcalaa

namespace Go.Proofs.Ytaiikhbfnfcalaa
open Go.RowKit

def inB15 (l m n : Int) : Bool := decide (l ≤ n ∧ n ≤ m)
set_option maxHeartbeats 800000 in
theorem x15from_any (n l m : Int) (w : World) : Calls Try.prog 36 #[.int .i64 n, .int .i64 l, .int .i64 m] w fun e w' => e = .returned (.bool (inB15 l m n)) ∧ w = w' := by
  by_cases h0 : l ≤ n
  · by_cases h1 : n ≤ m
    · have HE : Hid (true = inB15 l m n) := (decide_eq_true ⟨h0, h1⟩).symm
      have h1d : decide (n ≤ m) = true := decide_eq_true h1
      have h0d : decide (l ≤ n) = true := decide_eq_true h0
      go_enter Try.func36, Try.ntmps36
      go_wp2
      go_ret
      exact ⟨ret_bool HE.out, rfl⟩
    · have HE : Hid (false = inB15 l m n) := (decide_eq_false (fun e => h1 e.2)).symm
      have h1d : decide (n ≤ m) = false := decide_eq_false h1
      have h0d : decide (l ≤ n) = true := decide_eq_true h0
      clear h1
      go_enter Try.func36, Try.ntmps36
      go_wp2
      go_ret
      exact ⟨ret_bool HE.out, rfl⟩
  · have HE : Hid (false = inB15 l m n) := (decide_eq_false (fun e => h0 e.1)).symm
    have h0d : decide (l ≤ n) = false := decide_eq_false h0
    clear h0
    go_enter Try.func36, Try.ntmps36
    go_wp2
    go_ret
    exact ⟨ret_bool HE.out, rfl⟩
set_option maxHeartbeats 800000 in
theorem x15idc_any (x : Int) (w : World) : Calls Try.prog 40 #[.int .i64 x] w fun e w' => e = .returned (.bool (inB15 0 1073741824 x)) ∧ w = w' := by
  have HC := (show Hid _ from x15from_any x 0 1073741824 w)
  obtain ⟨r, hr⟩ : ∃ r, r = inB15 0 1073741824 x := ⟨_, rfl⟩
  rw [← hr] at HC ⊢
  clear hr
  go_enter Try.func40, Try.ntmps40
  go_wp2_with fail
  refine Calls.mono HC.out ?_
  rintro e w1 ⟨rfl, rfl⟩
  clear HC
  go_wp2
  go_ret
  exact ⟨rfl, rfl⟩
set_option maxHeartbeats 800000 in
theorem x15binc_any (x b : Int) (g : Nat) (w : World) (hb : 2 ≤ b ∧ b ≤ 32) (hg : w.cell? ⟨g, 0, none⟩ = some (.int .i64 b)) : Calls Try.prog 41 #[.int .i64 x, .pointer (some ⟨g, 0, none⟩)] w fun e w' => e = .returned (.bool (inB15 0 (b - 1) x)) ∧ w = w' := by
  have HC := (show Hid _ from x15from_any x 0 (b - 1) w)
  obtain ⟨r, hr⟩ : ∃ r, r = inB15 0 (b - 1) x := ⟨_, rfl⟩
  rw [← hr] at HC ⊢
  clear hr
  obtain ⟨b1, b2⟩ := hb
  have hsub : IntKind.i64.wrap (b - 1) = b - 1 := by simp [IntKind.wrap, IntKind.signed, IntKind.bits]; omega
  go_enter Try.func41, Try.ntmps41
  go_wp2_with fail
  refine Calls.mono HC.out ?_
  rintro e w1 ⟨rfl, rfl⟩
  clear HC
  go_wp2
  go_ret
  exact ⟨rfl, rfl⟩
set_option maxRecDepth 20000 in
set_option maxHeartbeats 1600000 in
theorem x15eachid_any (a : Option Addr) (l c : Nat) (xs : List Int) (w : World) (h : Lsts w a l c xs) : Calls Try.prog 39 #[.slice a l c, .func (.func 40) #[] #[]] w fun e w' => ∃ r, e = .returned (.bool r) ∧ (r = true ↔ ∀ i, i < xs.length → 0 ≤ xs.getD i 0 ∧ xs.getD i 0 ≤ 1073741824) ∧ w = w' := by
  have hm := h.hmax
  have hc := h.hcap
  unfold maxLen at hm
  have HL : Hid (xs.length = l) := h.hlen
  have H : Hid (Lsts w a l c xs) := h
  have HQ : Hid (∀ x : Int, Calls Try.prog 40 #[.int .i64 x] w fun e w' => e = .returned (.bool (inB15 0 1073741824 x)) ∧ w = w') := fun x => x15idc_any x w
  clear h 
  go_enter Try.func39, Try.ntmps39
  go_wp2
  go_loopw [9] (fun v9 wr => ∃ k : Nat, k ≤ l ∧ v9 = .int .i64 k ∧ Hid (∀ j, j < k → 0 ≤ xs.getD j 0 ∧ xs.getD j 0 ≤ 1073741824) ∧ w = wr) (fun v9 _ => l - (intOf v9).toNat)
  case atStart => exact ⟨0, by omega, rfl, fun j hj => by omega, rfl⟩
  case round =>
    obtain ⟨k, hk, rfl, HE, rfl⟩ := hrel
    by_cases hlt : k < l
    · have hlti : (k : Int) < (l : Int) := by omega
      obtain ⟨b1, o1, rfl, c1⟩ := H.out.cells (by omega)
      replace c1 := c1 k hlt
      obtain ⟨x, hx⟩ : ∃ x, x = xs.getD k 0 := ⟨_, rfl⟩
      rw [← hx] at c1
      have HX : Hid (x = xs.getD k 0) := hx
      have HC := (show Hid _ from HQ.out x)
      obtain ⟨r, hr⟩ : ∃ r, r = inB15 0 1073741824 x := ⟨_, rfl⟩
      rw [← hr] at HC
      have HR : Hid (r = inB15 0 1073741824 x) := hr
      clear hx hr
      go_wp2_with fail
      refine Calls.mono HC.out ?_
      rintro e w1 ⟨rfl, rfl⟩
      clear HC
      cases r with
      | true =>
        have HN : Hid (∀ j, j < k + 1 → 0 ≤ xs.getD j 0 ∧ xs.getD j 0 ≤ 1073741824) := fun j hj => by
          by_cases e : j = k
          · subst e
            rw [← HX.out]
            exact of_decide_eq_true HR.out.symm
          · exact HE.out j (by omega)
        clear HX HE HR HQ
        go_wp2
        go_roundw
        case rel => exact ⟨k + 1, by omega, by go_num, HN, by first | rfl | trivial⟩
        case measure => simp [intOf]; omega
      | false =>
        have HF : Hid (¬ ∀ i, i < xs.length → 0 ≤ xs.getD i 0 ∧ xs.getD i 0 ≤ 1073741824) := fun q => by
          have := q k (by rw [HL.out]; exact hlt)
          rw [← HX.out] at this
          exact absurd this (of_decide_eq_false HR.out.symm)
        clear HX HE HR HQ
        go_wp2
        go_ret
        exact ⟨false, rfl, ⟨fun e => (by cases e), fun e => absurd e HF.out⟩, rfl⟩
    · obtain rfl : k = l := by omega
      have HF : Hid (∀ i, i < xs.length → 0 ≤ xs.getD i 0 ∧ xs.getD i 0 ≤ 1073741824) := fun i hi => HE.out i (by rw [← HL.out]; exact hi)
      clear HE HQ
      go_wp2
      go_ret
      exact ⟨true, rfl, ⟨fun _ => HF.out, fun _ => rfl⟩, rfl⟩
set_option maxRecDepth 20000 in
set_option maxHeartbeats 1600000 in
theorem x15eachbin_any (a : Option Addr) (l c : Nat) (xs : List Int) (b : Int) (g : Nat) (hb : 2 ≤ b ∧ b ≤ 32) (w : World) (hg : w.cell? ⟨g, 0, none⟩ = some (.int .i64 b)) (h : Lsts w a l c xs) : Calls Try.prog 39 #[.slice a l c, .func (.func 41) #[] #[.pointer (some ⟨g, 0, none⟩)]] w fun e w' => ∃ r, e = .returned (.bool r) ∧ (r = true ↔ ∀ i, i < xs.length → 0 ≤ xs.getD i 0 ∧ xs.getD i 0 ≤ (b - 1)) ∧ w = w' := by
  have hm := h.hmax
  have hc := h.hcap
  unfold maxLen at hm
  have HL : Hid (xs.length = l) := h.hlen
  have H : Hid (Lsts w a l c xs) := h
  have HQ : Hid (∀ x : Int, Calls Try.prog 41 #[.int .i64 x, .pointer (some ⟨g, 0, none⟩)] w fun e w' => e = .returned (.bool (inB15 0 (b - 1) x)) ∧ w = w') := fun x => x15binc_any x b g w hb hg
  clear h hg hb
  go_enter Try.func39, Try.ntmps39
  go_wp2
  go_loopw [9] (fun v9 wr => ∃ k : Nat, k ≤ l ∧ v9 = .int .i64 k ∧ Hid (∀ j, j < k → 0 ≤ xs.getD j 0 ∧ xs.getD j 0 ≤ (b - 1)) ∧ w = wr) (fun v9 _ => l - (intOf v9).toNat)
  case atStart => exact ⟨0, by omega, rfl, fun j hj => by omega, rfl⟩
  case round =>
    obtain ⟨k, hk, rfl, HE, rfl⟩ := hrel
    by_cases hlt : k < l
    · have hlti : (k : Int) < (l : Int) := by omega
      obtain ⟨b1, o1, rfl, c1⟩ := H.out.cells (by omega)
      replace c1 := c1 k hlt
      obtain ⟨x, hx⟩ : ∃ x, x = xs.getD k 0 := ⟨_, rfl⟩
      rw [← hx] at c1
      have HX : Hid (x = xs.getD k 0) := hx
      have HC := (show Hid _ from HQ.out x)
      obtain ⟨r, hr⟩ : ∃ r, r = inB15 0 (b - 1) x := ⟨_, rfl⟩
      rw [← hr] at HC
      have HR : Hid (r = inB15 0 (b - 1) x) := hr
      clear hx hr
      go_wp2_with fail
      refine Calls.mono HC.out ?_
      rintro e w1 ⟨rfl, rfl⟩
      clear HC
      cases r with
      | true =>
        have HN : Hid (∀ j, j < k + 1 → 0 ≤ xs.getD j 0 ∧ xs.getD j 0 ≤ (b - 1)) := fun j hj => by
          by_cases e : j = k
          · subst e
            rw [← HX.out]
            exact of_decide_eq_true HR.out.symm
          · exact HE.out j (by omega)
        clear HX HE HR HQ
        go_wp2
        go_roundw
        case rel => exact ⟨k + 1, by omega, by go_num, HN, by first | rfl | trivial⟩
        case measure => simp [intOf]; omega
      | false =>
        have HF : Hid (¬ ∀ i, i < xs.length → 0 ≤ xs.getD i 0 ∧ xs.getD i 0 ≤ (b - 1)) := fun q => by
          have := q k (by rw [HL.out]; exact hlt)
          rw [← HX.out] at this
          exact absurd this (of_decide_eq_false HR.out.symm)
        clear HX HE HR HQ
        go_wp2
        go_ret
        exact ⟨false, rfl, ⟨fun e => (by cases e), fun e => absurd e HF.out⟩, rfl⟩
    · obtain rfl : k = l := by omega
      have HF : Hid (∀ i, i < xs.length → 0 ≤ xs.getD i 0 ∧ xs.getD i 0 ≤ (b - 1)) := fun i hi => HE.out i (by rw [← HL.out]; exact hi)
      clear HE HQ
      go_wp2
      go_ret
      exact ⟨true, rfl, ⟨fun _ => HF.out, fun _ => rfl⟩, rfl⟩
/-- How often each number stands in some lists: a map that is new. -/
def CntT15 (P : List Int) (w : World) (e : Ending) (w' : World) : Prop := ∃ b N, e = .returned (.map (some b)) ∧ IntM w' b N (cnt15 P) ∧ w.heap.size ≤ b ∧ Below w.heap.size w w'
theorem IRows.at15 {w : World} {a : Option Addr} {l c : Nat} {Ls : List (List Int)} (h : IRows w a l c Ls) {i : Nat} (hi : i < l) : ∃ b off p n k, a = some ⟨b, off, none⟩ ∧ w.cell? ⟨b, off + i, none⟩ = some (.slice p n k) ∧ Lsts w p n k (Ls.getD i []) := by
  obtain ⟨b, off, e, hc⟩ := h.cells (by omega)
  obtain ⟨p, n, k, h1, h2⟩ := hc i hi
  exact ⟨b, off, p, n, k, e, h1, h2⟩
theorem flat_snoc15 {Ls : List (List Int)} {k : Nat} (hk : k < Ls.length) : (Ls.take (k + 1)).flatten = (Ls.take k).flatten ++ Ls.getD k [] := by
  rw [List.take_succ_eq_append_getElem hk, List.flatten_append]
  simp [List.getD, List.getElem?_eq_getElem hk]
theorem flat_le15 (Ls : List (List Int)) (k : Nat) : (Ls.take k).flatten.length ≤ Ls.flatten.length := by
  conv => rhs; rw [← List.take_append_drop k Ls, List.flatten_append, List.length_append]
  omega
theorem flat_le15' {Ls : List (List Int)} {k : Nat} (hk : k < Ls.length) (j : Nat) : ((Ls.take k).flatten ++ (Ls.getD k []).take j).length ≤ Ls.flatten.length := by
  have h1 := flat_le15 Ls (k + 1)
  rw [flat_snoc15 hk] at h1
  simp only [List.length_append, List.length_take] at h1 ⊢
  omega
theorem grown_low15 {n G : Nat} {w wq w' : World} (hb : Below n w wq) (hg : wq.grownBy w' (some G)) (hn : n ≤ w.heap.size) (hG : n ≤ G) : Below n w w' :=
  hb.trans (show Below n wq w' from ⟨hg.os, hg.tape, hg.output, hg.size, fun k hk => hg.block k (Nat.lt_of_lt_of_le hk (Nat.le_trans hn hb.size)) (fun e => by have e2 : k = G := Option.some.inj e; omega)⟩)
set_option maxRecDepth 20000 in
set_option maxHeartbeats 3200000 in
theorem x15counts_any (a : Option Addr) (l c : Nat) (Ls : List (List Int)) (w : World) (h : IRows w a l c Ls) (hs : Ls.flatten.length ≤ 1000000) : Calls Try.prog 27 #[.slice a l c] w fun e w' => CntT15 Ls.flatten w e w' := by
  have hm := h.hmax
  have hc := h.hcap
  unfold maxLen at hm
  have HL : Hid (Ls.length = l) := h.hlen
  have H : Hid (IRows w a l c Ls) := h
  have HS : Hid (Ls.flatten.length ≤ 1000000) := hs
  have HB0 : Hid (Below w.heap.size w (w.alloc (.map #[] 0))) := balloc _ _
  have HM0 : Hid (IntM (w.alloc (.map #[] 0)) w.heap.size 0 (cnt15 [])) := (IntM.new w).congr cnt_nil15
  obtain ⟨G, hG⟩ : ∃ G, G = w.heap.size := ⟨_, rfl⟩
  have HG : Hid (G = w.heap.size) := hG
  obtain ⟨W, hW⟩ : ∃ W, W = w.alloc (.map #[] 0) := ⟨_, rfl⟩
  rw [← hG, ← hW] at HM0
  rw [← hW] at HB0
  have HW : Hid (W = w.alloc (.map #[] 0)) := hW
  have hmm := @run_makeMap Try.prog
  clear h hs hG hW
  go_enter Try.func27, Try.ntmps27
  go_upto_region 2 with fail
  rw [← HW.out, ← HG.out]
  clear HW
  go_wp2
  go_loopw [11] (fun v11 wr => ∃ k : Nat, k ≤ l ∧ v11 = .int .i64 k ∧ Hid ((∃ N, N ≤ (Ls.take k).flatten.length ∧ IntM wr G N (cnt15 (Ls.take k).flatten)) ∧ Below w.heap.size w wr)) (fun v11 _ => l - (intOf v11).toNat)
  case atStart => exact ⟨0, by omega, rfl, ⟨0, Nat.zero_le _, HM0.out⟩, HB0.out⟩
  case round =>
    obtain ⟨k, hk, rfl, HK⟩ := hrel
    by_cases hlt : k < l
    · have hlti : (k : Int) < (l : Int) := by omega
      obtain ⟨b1, o1, p, n, q, rfl, c1, hLp⟩ := H.out.at15 hlt
      have hnm := hLp.hmax
      have hnc := hLp.hcap
      unfold maxLen at hnm
      obtain ⟨L, hL⟩ : ∃ L, L = Ls.getD k [] := ⟨_, rfl⟩
      rw [← hL] at hLp
      have HLk : Hid (L = Ls.getD k [] ∧ L.length = n ∧ k < Ls.length) := ⟨hL, hLp.hlen, by rw [HL.out]; exact hlt⟩
      have HLp : Hid (∀ wx, Below w.heap.size w wx → Lsts wx p n q L) := fun wx hb => hLp.below hb
      replace c1 := bkeep HK.out.2 c1 rfl
      clear hL hLp
      go_wp2
      go_loopw [17] (fun v17 wq => ∃ j : Nat, j ≤ n ∧ v17 = .int .i64 j ∧ Hid ((∃ N, N ≤ ((Ls.take k).flatten ++ L.take j).length ∧ IntM wq G N (cnt15 ((Ls.take k).flatten ++ L.take j))) ∧ Below w.heap.size w wq)) (fun v17 _ => n - (intOf v17).toNat)
      case atStart =>
        refine ⟨0, by omega, rfl, ?_, HK.out.2⟩
        obtain ⟨N, h1, h2⟩ := HK.out.1
        exact ⟨N, by simpa using h1, by simpa using h2⟩
      case round =>
        obtain ⟨j, hj, rfl, HJ⟩ := hrel
        clear HK
        by_cases hjn : j < n
        · have hjni : (j : Int) < (n : Int) := by omega
          have hLq := HLp.out _ HJ.out.2
          have hwd := hLq.word
          obtain ⟨b2, o2, rfl, c2⟩ := hLq.cells (by omega)
          replace c2 := c2 j hjn
          obtain ⟨⟨N, hN, hM⟩, hB⟩ := HJ.out
          have hjL : j < L.length := by rw [HLk.out.2.1]; exact hjn
          have htk := take_snoc15 hjL
          have hfl := flat_le15' HLk.out.2.2 j
          rw [← HLk.out.1] at hfl
          have hSS := HS.out
          obtain ⟨x, hx⟩ : ∃ x, x = L.getD j 0 := ⟨_, rfl⟩
          have hxw := hwd x (by rw [hx]; exact mem_getD hjL)
          rw [← hx] at c2 htk
          obtain ⟨P, hP⟩ : ∃ P, P = (Ls.take k).flatten ++ L.take j := ⟨_, rfl⟩
          have hP1 : (Ls.take k).flatten ++ L.take (j + 1) = P ++ [x] := by rw [htk, hP, List.append_assoc]
          rw [← hP] at hN hM hfl
          have hlook := hM.look1 hxw
          rw [cnt_get15] at hlook
          have hcl := List.count_le_length (a := x) (l := P)
          obtain ⟨C, hC⟩ : ∃ C, C = P.count x := ⟨_, rfl⟩
          rw [← hC] at hlook hcl
          have hCb : C ≤ 1000000 := by omega
          obtain ⟨w2, hput, hgr, hM2⟩ := hM.put hxw (by omega) ((C : Int) + 1)
          have HN : Hid ((∃ N, N ≤ ((Ls.take k).flatten ++ L.take (j + 1)).length ∧ IntM w2 G N (cnt15 ((Ls.take k).flatten ++ L.take (j + 1)))) ∧ Below w.heap.size w w2) := by
            refine ⟨⟨N + 1, ?_, ?_⟩, grown_low15 hB hgr (Nat.le_refl _) (by rw [HG.out]; exact Nat.le_refl _)⟩
            · rw [hP1]
              simp
              exact hN
            · rw [hP1]
              exact hM2.congr (fun z => by rw [cnt_more15, hC])
          clear hLq hwd hN hM hB hjL htk hfl hSS hx hP hP1 hcl hC hgr hM2 HJ hxw
          go_wp2
          go_roundw
          case rel => exact ⟨j + 1, by omega, by go_num, HN⟩
          case measure => simp [intOf]; omega
        · obtain rfl : j = n := by omega
          have HN : Hid ((∃ N, N ≤ (Ls.take (k + 1)).flatten.length ∧ IntM wr G N (cnt15 (Ls.take (k + 1)).flatten)) ∧ Below w.heap.size w wr) := by
            have e : L.take j = Ls.getD k [] := by rw [← HLk.out.1]; exact List.take_of_length_le (by rw [HLk.out.2.1]; exact Nat.le_refl _)
            have := HJ.out
            rw [e, ← flat_snoc15 HLk.out.2.2] at this
            exact this
          clear HJ
          go_wp2
          go_roundw
          case rel => exact ⟨k + 1, by omega, by go_num, HN⟩
          case measure => simp [intOf]; omega
    · obtain rfl : k = l := by omega
      have HF : Hid ((∃ N, IntM wr G N (cnt15 Ls.flatten)) ∧ Below w.heap.size w wr) := by
        obtain ⟨⟨N, h1, h2⟩, h3⟩ := HK.out
        rw [← HL.out, List.take_length] at h2
        exact ⟨⟨N, h2⟩, h3⟩
      clear HK
      go_wp2
      go_ret
      obtain ⟨⟨N, h2⟩, h3⟩ := HF.out
      exact ⟨G, N, rfl, h2, by rw [HG.out]; exact Nat.le_refl _, h3⟩
/-- Whether numbers may be ids. -/
theorem idsOk15 {xs ks : List Int} (hn : ks.Nodup) (hm : ∀ k, k ∈ ks ↔ cnt15 xs k ≠ none) (hl : xs.length ≤ 256) (hr : ∀ i, i < xs.length → 0 ≤ xs.getD i 0 ∧ xs.getD i 0 ≤ 1073741824) : ks.length = xs.length ↔ IdsOk xs := by
  have hk := nodup_keys15 (xs := xs) hn (fun k => (hm k).trans (cnt_some15 xs k))
  constructor
  · intro e
    refine ⟨hl, fun x hx => ?_, hk.1 e⟩
    obtain ⟨i, hi, rfl⟩ := List.getElem_of_mem hx
    simpa [List.getD, List.getElem?_eq_getElem hi] using hr i hi
  · intro h
    exact hk.2 h.nod
def IdsT15 (xs : List Int) (w : World) (e : Ending) (w' : World) : Prop := ∃ b, e = .returned (.bool b) ∧ (b = true ↔ IdsOk xs) ∧ Below w.heap.size w w'
set_option maxRecDepth 20000 in
set_option maxHeartbeats 3200000 in
theorem x15ids_any (a : Option Addr) (l c : Nat) (xs : List Int) (w : World) (h : Lsts w a l c xs) : Calls Try.prog 23 #[.slice a l c] w fun e w' => IdsT15 xs w e w' := by
  have hm := h.hmax
  have hc := h.hcap
  unfold maxLen at hm
  have hlen := h.hlen
  by_cases h256 : 256 < l
  · have hd : decide ((256 : Int) < (l : Int)) = true := decide_eq_true (by omega)
    have HF : Hid (¬ IdsOk xs) := fun q => by have := q.few; omega
    clear h hlen h256
    go_enter Try.func23, Try.ntmps23
    go_wp2
    go_ret
    exact ⟨false, rfl, ⟨fun e => (by cases e), fun e => absurd e HF.out⟩, Below.refl _ _⟩
  have hd : decide ((256 : Int) < (l : Int)) = false := decide_eq_false (by omega)
  have hle : l ≤ 256 := by omega
  have HE := (show Hid _ from x15eachid_any a l c xs w h)
  obtain ⟨W, hW⟩ : ∃ W, W = w.alloc (.cells #[.slice a l c] 22) := ⟨_, rfl⟩
  obtain ⟨G, hG⟩ : ∃ G, G = w.heap.size := ⟨_, rfl⟩
  have hBW : Below w.heap.size w W := by rw [hW]; exact balloc _ _
  have HC := (show Hid _ from x15counts_any (some ⟨G, 0, none⟩) 1 1 [xs] W ⟨rfl, Nat.le_refl _, by decide, fun _ => ⟨G, 0, rfl, fun i hi => ⟨a, l, c, by
    obtain rfl : i = 0 := by omega
    rw [hW, hG]
    simp, by
    obtain rfl : i = 0 := by omega
    exact h.below hBW⟩⟩⟩ (by simp; omega))
  have HX : Hid (xs.length = l ∧ Below w.heap.size w W) := ⟨hlen, hBW⟩
  have HW : Hid (W = w.alloc (.cells #[.slice a l c] 22) ∧ G = w.heap.size) := ⟨hW, hG⟩
  clear hW hBW h hlen h256 hG
  go_enter Try.func23, Try.ntmps23
  go_wp2_with fail
  refine Calls.mono HE.out ?_
  rintro e w1 ⟨r, rfl, hr, rfl⟩
  clear HE
  cases r with
  | false =>
    have HF : Hid (¬ IdsOk xs) := fun q => by
      have := hr.2 (fun i hi => q.rng _ (mem_getD hi))
      cases this
    clear hr HC
    go_wp2
    go_ret
    exact ⟨false, rfl, ⟨fun e => (by cases e), fun e => absurd e HF.out⟩, Below.refl _ _⟩
  | true =>
    have HR : Hid (∀ i, i < xs.length → 0 ≤ xs.getD i 0 ∧ xs.getD i 0 ≤ 1073741824) := hr.1 rfl
    clear hr
    go_wp2_with fail
    rw [← HW.out.1, ← HW.out.2]
    refine Calls.mono HC.out ?_
    rintro e w2 ⟨b, N, rfl, hM, hb, hB⟩
    obtain ⟨ks, hlenk, hnd, hmem⟩ := hM.len
    have hN : ks.length ≤ 256 := by
      have h1 := nodup_sub15 ks xs hnd (fun k hk => by simpa using (cnt_some15 _ k).1 ((hmem k).1 hk))
      have := HX.out.1
      omega
    have HI : Hid ((ks.length = l ↔ IdsOk xs) ∧ Below w.heap.size w w2) := by
      have := idsOk15 (xs := xs) hnd (fun k => by simpa using hmem k) (by rw [HX.out.1]; exact hle) HR.out
      rw [HX.out.1] at this
      exact ⟨this, bthen HX.out.2 hB⟩
    obtain ⟨n, hn⟩ : ∃ n, n = ks.length := ⟨_, rfl⟩
    rw [← hn] at hlenk hN HI
    clear HC HR hM hnd hmem hn hb hB HX
    by_cases hq : n = l
    · have hqd : ((n : Int) == (l : Int)) = true := by simp [hq]
      have HF : Hid (IdsOk xs ∧ Below w.heap.size w w2) := ⟨HI.out.1.1 hq, HI.out.2⟩
      clear HI
      go_wp2
      go_ret
      exact ⟨true, rfl, ⟨fun _ => HF.out.1, fun _ => rfl⟩, HF.out.2⟩
    · have hqd : ((n : Int) == (l : Int)) = false := by simp; omega
      have HF : Hid (¬ IdsOk xs ∧ Below w.heap.size w w2) := ⟨fun q => hq (HI.out.1.2 q), HI.out.2⟩
      clear HI
      go_wp2
      go_ret
      exact ⟨false, rfl, ⟨fun e => (by cases e), fun e => absurd e HF.out.1⟩, HF.out.2⟩
/-- Whether there may be such a column. -/
def BinsT15 (xs : List Int) (b : Int) (w : World) (e : Ending) (w' : World) : Prop := ∃ r, e = .returned (.bool r) ∧ (r = true ↔ ColOk xs.length b xs) ∧ Below w.heap.size w w'
set_option maxRecDepth 20000 in
set_option maxHeartbeats 3200000 in
theorem x15bins_any (a : Option Addr) (l c : Nat) (xs : List Int) (b : Int) (w : World) (h : Lsts w a l c xs) : Calls Try.prog 24 #[.slice a l c, .int .i64 b] w fun e w' => BinsT15 xs b w e w' := by
  obtain ⟨W, hW⟩ : ∃ W, W = w.alloc (.cells #[.int .i64 b] 3) := ⟨_, rfl⟩
  obtain ⟨G, hG⟩ : ∃ G, G = w.heap.size := ⟨_, rfl⟩
  have hBW : Below w.heap.size w W := by rw [hW]; exact balloc _ _
  have hg : W.cell? ⟨G, 0, none⟩ = some (.int .i64 b) := by rw [hW, hG]; simp
  have HI := (show Hid _ from x15from_any b 2 32 W)
  obtain ⟨z, hz⟩ : ∃ z, z = inB15 2 32 b := ⟨_, rfl⟩
  rw [← hz] at HI
  have HZ : Hid (z = inB15 2 32 b) := hz
  have HQ : Hid (2 ≤ b ∧ b ≤ 32 → Calls Try.prog 39 #[.slice a l c, .func (.func 41) #[] #[.pointer (some ⟨G, 0, none⟩)]] W fun e w' => ∃ r, e = .returned (.bool r) ∧ (r = true ↔ ∀ i, i < xs.length → 0 ≤ xs.getD i 0 ∧ xs.getD i 0 ≤ (b - 1)) ∧ W = w') := fun q => x15eachbin_any a l c xs b G q W hg (h.below hBW)
  have HW : Hid (W = w.alloc (.cells #[.int .i64 b] 3) ∧ G = w.heap.size) := ⟨hW, hG⟩
  have HX : Hid (Below w.heap.size w W) := hBW
  clear hW hG hBW hz h
  go_enter Try.func24, Try.ntmps24
  go_upto_region 1 with fail
  rw [← HW.out.1, ← HW.out.2]
  clear HW
  go_wp2_with fail
  refine Calls.mono HI.out ?_
  rintro e w1 ⟨rfl, rfl⟩
  clear HI
  cases z with
  | false =>
    have HF : Hid (¬ ColOk xs.length b xs) := fun q => absurd (⟨q.lo, q.hi⟩ : 2 ≤ b ∧ b ≤ 32) (of_decide_eq_false HZ.out.symm)
    clear HQ HZ
    go_wp2
    go_ret
    exact ⟨false, rfl, ⟨fun e => (by cases e), fun e => absurd e HF.out⟩, HX.out⟩
  | true =>
    have hb := of_decide_eq_true HZ.out.symm
    have HE := (show Hid _ from HQ.out hb)
    have HB : Hid (2 ≤ b ∧ b ≤ 32) := hb
    clear HQ HZ hb
    go_wp2_with fail
    refine Calls.mono HE.out ?_
    rintro e w2 ⟨r, rfl, hr, rfl⟩
    clear HE
    have HF : Hid (r = true ↔ ColOk xs.length b xs) := by
      refine hr.trans ⟨fun q => ⟨HB.out.1, HB.out.2, rfl, fun k hk => ?_⟩, fun q i hi => ?_⟩
      · have := q k hk
        exact ⟨this.1, by omega⟩
      · have := q.rng i hi
        exact ⟨this.1, by omega⟩
    clear hr HB
    cases r with
    | false =>
      go_wp2
      go_ret
      exact ⟨false, rfl, ⟨fun e => (by cases e), fun e => absurd e (fun q => by have := HF.out.2 q; first | cases this | exact this.elim)⟩, HX.out⟩
    | true =>
      go_wp2
      go_ret
      exact ⟨true, rfl, ⟨fun _ => HF.out.1 trivial, fun _ => rfl⟩, HX.out⟩
end Go.Proofs.Ytaiikhbfnfcalaa

namespace Go.Proofs.Ytaiikhbfnfcalaa
open Go.RowKit

theorem tabOk15 {t : Tab} (h : ¬ 16 < t.cols.length) (hl : t.bins.length = t.cols.length) (hi : IdsOk t.ids) : TabOk t ↔ ∀ j, j < t.cols.length → ColOk t.ids.length (t.bins.getD j 0) (t.cols.getD j []) := ⟨fun q => q.col, fun q => ⟨hi, by omega, hl, q⟩⟩
set_option maxRecDepth 20000 in
set_option maxHeartbeats 6400000 in
theorem x15right_any (v : TV) (t : Tab) (w : World) (h : TabAt w v t) : Calls Try.prog 10 #[.agg #[.slice v.p0 v.l0 v.c0, .slice v.p1 v.l1 v.c1, .slice v.p2 v.l2 v.c2]] w fun e w' => RgtT15 t w e w' := by
  obtain ⟨W, hW⟩ : ∃ W, W = w.alloc (.cells v.cells 25) := ⟨_, rfl⟩
  obtain ⟨G, hG⟩ : ∃ G, G = w.heap.size := ⟨_, rfl⟩
  have hBW : Below w.heap.size w W := by rw [hW]; exact balloc _ _
  have hV : TVar W G v := by rw [hW, hG]; exact TVar.new w v
  have HV : Hid (∀ wx, Below W.heap.size W wx → TVar wx G v) := fun wx hb => hV.below hb
  have HT : Hid (∀ wx, Below W.heap.size W wx → TabAt wx v t) := fun wx hb => (h.below hBW).below hb
  have HB : Hid (Below w.heap.size w W) := hBW
  have HW : Hid (W = w.alloc (.cells v.cells 25) ∧ G = w.heap.size) := ⟨hW, hG⟩
  have k0 := h.ids.hlen
  have k1 := h.bins.hlen
  have k2 := h.cols.hlen
  have m0 := h.ids.hmax
  have m0' := h.ids.hcap
  have m1 := h.bins.hmax
  have m1' := h.bins.hcap
  have m2 := h.cols.hmax
  have m2' := h.cols.hcap
  unfold maxLen at m0 m1 m2
  obtain ⟨c0, c1, c2, -⟩ := hV.cells
  have HK : Hid (t.ids.length = v.l0 ∧ t.bins.length = v.l1 ∧ t.cols.length = v.l2) := ⟨k0, k1, k2⟩
  have HI : Hid (Calls Try.prog 23 #[.slice v.p0 v.l0 v.c0] W fun e w' => IdsT15 t.ids W e w') := x15ids_any _ _ _ _ _ (h.below hBW).ids
  obtain ⟨p0, l0, q0, p1, l1, q1, p2, l2, q2⟩ := v
  dsimp only at *
  clear hW hG hBW hV h k0 k1 k2
  go_enter Try.func10, Try.ntmps10
  go_upto_region 1 with fail
  rw [show (World.alloc w (Obj.cells #[.slice p0 l0 q0, .slice p1 l1 q1, .slice p2 l2 q2] 25)) = W from HW.out.1.symm, ← HW.out.2]
  clear HW
  by_cases h16 : 16 < l2
  · have hd : decide ((16 : Int) < (l2 : Int)) = true := decide_eq_true (by omega)
    have HF : Hid (¬ TabOk t) := fun q => by have := q.few; have := HK.out.2.2; omega
    clear HV HT HI HK
    go_wp2
    go_ret
    exact ⟨false, rfl, ⟨fun e => (by cases e), fun e => absurd e HF.out⟩, HB.out⟩
  have hd : decide ((16 : Int) < (l2 : Int)) = false := decide_eq_false (by omega)
  by_cases hll : l1 = l2
  case neg =>
    have hne : ((l1 : Int) != (l2 : Int)) = true := by simp; omega
    have HF : Hid (¬ TabOk t) := fun q => by have := q.len; have := HK.out.2.2; have := HK.out.2.1; omega
    clear HV HT HI HK
    go_wp2
    go_ret
    exact ⟨false, rfl, ⟨fun e => (by cases e), fun e => absurd e HF.out⟩, HB.out⟩
  subst hll
  have hne : ((l1 : Int) != (l1 : Int)) = false := by simp
  go_wp2_with fail
  refine Calls.mono HI.out ?_
  rintro e w1 ⟨b, rfl, hb, hB1⟩
  clear HI
  replace c0 := bkeep hB1 c0 rfl
  replace c1 := bkeep hB1 c1 rfl
  replace c2 := bkeep hB1 c2 rfl
  cases b with
  | false =>
    have HF : Hid (¬ TabOk t ∧ Below w.heap.size w w1) := ⟨fun q => (by have := hb.2 q.ids; cases this), bthen HB.out hB1⟩
    clear HV HT HK hb hB1
    go_wp2
    go_ret
    exact ⟨false, rfl, ⟨fun e => (by cases e), fun e => absurd e HF.out.1⟩, HF.out.2⟩
  | true =>
  have HO : Hid (TabOk t ↔ ∀ j, j < t.cols.length → ColOk t.ids.length (t.bins.getD j 0) (t.cols.getD j [])) := tabOk15 (by rw [HK.out.2.2]; exact h16) (by rw [HK.out.2.1, HK.out.2.2]) (hb.1 rfl)
  have HB1 : Hid (Below W.heap.size W w1) := hB1
  clear hb hB1
  go_wp2
  go_loopw [27] (fun v27 wr => ∃ k : Nat, k ≤ l1 ∧ v27 = .int .i64 k ∧ Hid (∀ j, j < k → ColOk t.ids.length (t.bins.getD j 0) (t.cols.getD j [])) ∧ Hid (Below W.heap.size W wr)) (fun v27 _ => l1 - (intOf v27).toNat)
  case atStart => exact ⟨0, by omega, rfl, fun j hj => by omega, HB1.out⟩
  case round =>
    obtain ⟨k, hk, rfl, HE, HBr⟩ := hrel
    have hVr := HV.out _ HBr.out
    obtain ⟨c0, c1, c2, -⟩ := hVr.cells
    clear hVr
    dsimp only at c0 c1 c2
    by_cases hlt : k < l1
    · have hlti : (k : Int) < (l1 : Int) := by omega
      have hTr := HT.out _ HBr.out
      obtain ⟨b1, o1, p, n, q, e1, d1, hLp⟩ := hTr.cols.at15 hlt
      obtain ⟨b2, o2, e2, d2⟩ := hTr.bins.cells (by dsimp only; omega)
      dsimp only at e1 e2
      subst e1
      subst e2
      replace d2 := d2 k hlt
      obtain ⟨L, hL⟩ : ∃ L, L = t.cols.getD k [] := ⟨_, rfl⟩
      obtain ⟨x, hx⟩ : ∃ x, x = t.bins.getD k 0 := ⟨_, rfl⟩
      rw [← hL] at hLp
      rw [← hx] at d2
      have hnm := hLp.hmax
      have hnc := hLp.hcap
      unfold maxLen at hnm
      have HL : Hid (L = t.cols.getD k [] ∧ x = t.bins.getD k 0 ∧ L.length = n) := ⟨hL, hx, hLp.hlen⟩
      have HQ := (show Hid _ from x15bins_any p n q L x _ hLp)
      have HBw : Hid (Below w.heap.size w wr) := bthen HB.out HBr.out
      clear hL hx hLp hTr
      by_cases hn : n = l0
      case neg =>
        have hnn : ((n : Int) != (l0 : Int)) = true := by simp; omega
        have HF : Hid (¬ TabOk t) := fun z => by
          have := (z.col k (by rw [HK.out.2.2]; exact hlt)).len
          rw [← HL.out.1, HL.out.2.2, HK.out.1] at this
          exact hn this
        clear HV HT HE HO HQ HL HK HB HBr HB1
        go_wp2
        go_ret
        exact ⟨false, rfl, ⟨fun e => (by cases e), fun e => absurd e HF.out⟩, HBw.out⟩
      subst hn
      have hnn : ((n : Int) != (n : Int)) = false := by simp
      go_wp2_with fail
      refine Calls.mono HQ.out ?_
      rintro e w2 ⟨r, rfl, hr, hB2⟩
      clear HQ
      have HR : Hid (r = true ↔ ColOk t.ids.length (t.bins.getD k 0) (t.cols.getD k [])) := by
        have := hr
        rw [HL.out.2.2, ← HK.out.1, HL.out.1, HL.out.2.1] at this
        exact this
      have HB2 : Hid (Below W.heap.size W w2) := bthen HBr.out hB2
      have HBw2 : Hid (Below w.heap.size w w2) := bthen HBw.out hB2
      clear hr hB2
      cases r with
      | true =>
        have HN : Hid (∀ j, j < k + 1 → ColOk t.ids.length (t.bins.getD j 0) (t.cols.getD j [])) := fun j hj => by
          by_cases e : j = k
          · subst e
            exact HR.out.1 rfl
          · exact HE.out j (by omega)
        clear HE HR HL HBr
        go_wp2
        go_roundw
        case rel => exact ⟨k + 1, by omega, by go_num, HN, HB2⟩
        case measure => simp [intOf]; omega
      | false =>
        have HF : Hid (¬ TabOk t) := fun z => by
          have := HR.out.2 (z.col k (by rw [HK.out.2.2]; exact hlt))
          cases this
        clear HE HR HL HBr
        go_wp2
        go_ret
        exact ⟨false, rfl, ⟨fun e => (by cases e), fun e => absurd e HF.out⟩, HBw2.out⟩
    · obtain rfl : k = l1 := by omega
      have HF : Hid (TabOk t ∧ Below w.heap.size w wr) := ⟨HO.out.2 (fun j hj => HE.out j (by rw [← HK.out.2.2]; exact hj)), bthen HB.out HBr.out⟩
      clear HE HBr HO
      go_wp2
      go_ret
      exact ⟨true, rfl, ⟨fun _ => HF.out.1, fun _ => rfl⟩, HF.out.2⟩
end Go.Proofs.Ytaiikhbfnfcalaa

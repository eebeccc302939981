/-
  The program's sets: isBound, wordsFor, wholeWord, empty, New.
  The program's sets: Right.
  The program's sets: Of.
-/
import Derived.Test.YtaiikhbfnfcalaaB14A
import Derived.Test.YtaiikhbfnfcalaaR14F
import Derived.BigQuiet
namespace Go.Proofs.Ytaiikhbfnfcalaa
open Go.RowKit

/-- Whether a set may be of the numbers below n. -/
def isBd (n : Int) : Bool := decide (0 ≤ n) && decide (n ≤ 65536)
theorem isBd_true {n : Int} (h : isBd n = true) : ∃ m : Nat, n = (m : Int) ∧ m ≤ 65536 := by
  unfold isBd at h
  simp at h
  exact ⟨n.toNat, by omega, by omega⟩
theorem isBd_false {n : Int} (h : isBd n = false) : n < 0 ∨ 65536 < n := by
  unfold isBd at h
  simp at h
  omega
theorem isBd_nat {m : Nat} (h : m ≤ 65536) : isBd (m : Int) = true := by
  unfold isBd
  simp
  omega
set_option maxRecDepth 20000 in
set_option maxHeartbeats 1600000 in
theorem x14bound_any (n : Int) (w : World) : Calls Try.prog 46 #[.int .i64 n] w fun e w' => e = .returned (.bool (isBd n)) ∧ w = w' := by
  obtain ⟨b, hb⟩ : ∃ b, b = isBd n := ⟨_, rfl⟩
  rw [← hb]
  by_cases h0 : 0 ≤ n
  · have d0 : decide (0 ≤ n) = true := decide_eq_true h0
    by_cases h1 : n ≤ 65536
    · have d1 : decide (n ≤ 65536) = true := decide_eq_true h1
      have HB : Hid (b = true) := by show b = true; rw [hb]; unfold isBd; rw [d0, d1]; rfl
      clear hb h0 h1
      go_enter Try.func46, Try.ntmps46
      go_wp2
      go_ret
      exact ⟨by rw [HB.out]; rfl, by trivial⟩
    · have d1 : decide (n ≤ 65536) = false := decide_eq_false h1
      have HB : Hid (b = false) := by show b = false; rw [hb]; unfold isBd; rw [d1]; simp
      clear hb h0 h1
      go_enter Try.func46, Try.ntmps46
      go_wp2
      go_ret
      exact ⟨by rw [HB.out]; rfl, by trivial⟩
  · have d0 : decide (0 ≤ n) = false := decide_eq_false h0
    have HB : Hid (b = false) := by show b = false; rw [hb]; unfold isBd; rw [d0]; simp
    clear hb h0
    go_enter Try.func46, Try.ntmps46
    go_wp2
    go_ret
    exact ⟨by rw [HB.out]; rfl, by trivial⟩
set_option maxRecDepth 20000 in
set_option maxHeartbeats 1600000 in
theorem x14words_any (m : Nat) (hm : m ≤ 65536) (w : World) : Calls Try.prog 60 #[.int .i64 (m : Int)] w fun e w' => e = .returned (.int .i64 (((m + 63) / 64 : Nat) : Int)) ∧ w = w' := by
  obtain ⟨q, hq⟩ : ∃ q, q = (m + 63) / 64 := ⟨_, rfl⟩
  have e1 : ((m : Int) + 64 - 1).tdiv 64 = (q : Int) := by rw [Int.tdiv_eq_ediv_of_nonneg (by omega)]; omega
  have hq2 : q ≤ 1024 := by omega
  have hwq : RowKit.wrap64 (q : Int) = (q : Int) := by unfold RowKit.wrap64; omega
  rw [← hq]
  clear hq
  go_enter Try.func60, Try.ntmps60
  go_wp2
  go_ret
  exact ⟨by rfl, by trivial⟩
/-- The empty set of the numbers below m, in new blocks. -/
def EmpT14 (m : Nat) (w : World) (e : Ending) (w' : World) : Prop := ∃ g, e = .returned (.agg #[.int .i64 (m : Int), .slice (some ⟨g, 0, none⟩) ((m + 63) / 64) ((m + 63) / 64)]) ∧ Blk w' g (noughts ((m + 63) / 64)) ∧ w.heap.size ≤ g ∧ Below w.heap.size w w'
set_option maxRecDepth 20000 in
set_option maxHeartbeats 1600000 in
theorem x14empty_any (m : Nat) (hm : m ≤ 65536) (w : World) : Calls Try.prog 47 #[.int .i64 (m : Int)] w fun e w' => EmpT14 m w e w' := by
  have hb := balloc w (.cells #[.int .i64 0, .slice none 0 0] 42)
  have hR := heap_alloc_new w (.cells #[.int .i64 0, .slice none 0 0] 42)
  have HC := (show Hid (∀ wx : World, _) from fun wx => x14words_any m hm wx)
  have HB := (show Hid _ from hb)
  have HR : Hid ((w.alloc (.cells #[.int .i64 0, .slice none 0 0] 42)).heap[w.heap.size]? = some (.cells #[.int .i64 0, .slice none 0 0] 42 (0, 0))) := hR
  unfold EmpT14
  obtain ⟨q, hq⟩ : ∃ q, q = (m + 63) / 64 := ⟨_, rfl⟩
  have hq2 : q ≤ 1024 := by omega
  rw [← hq] at HC
  rw [← hq]
  clear hb hR hq
  go_enter Try.func47, Try.ntmps47
  go_wp2_with fail
  refine Calls.mono (HC.out _) ?_
  rintro e w1 ⟨rfl, rfl⟩
  clear HC
  dsimp only
  go_wp2_with (at_make; refine wpList_mk _ rfl _ _ 40 rfl Try.underlying40 .i64 .i64 _ _ q rfl rfl (by first | rfl | omega) (by first | rfl | omega) (by omega) ?_)
  intro w1 k1 k2 k3
  have hR1 : w1.heap[w.heap.size]? = some (.cells #[.int .i64 0, .slice none 0 0] 42 (0, 0)) := (k2.block _ (by omega)).trans HR.out
  obtain ⟨⟨r0, f0⟩, ⟨r1, f1⟩, z0, z1⟩ := put2_cells hR1 (.int .i64 (m : Int)) (.slice (some ⟨w.heap.size + 1, 0, none⟩) q q)
  have HF : Hid (Blk ((w1.setCell ⟨w.heap.size, 0, none⟩ (.int .i64 (m : Int))).setCell ⟨w.heap.size, 1, none⟩ (.slice (some ⟨w.heap.size + 1, 0, none⟩) q q)) (w.heap.size + 1) (noughts q) ∧ Below w.heap.size w ((w1.setCell ⟨w.heap.size, 0, none⟩ (.int .i64 (m : Int))).setCell ⟨w.heap.size, 1, none⟩ (.slice (some ⟨w.heap.size + 1, 0, none⟩) q q))) := ⟨(k1.grown (grown_set w1 w.heap.size 0 _) (fun e => by have := Option.some.inj e; omega)).grown (grown_set _ w.heap.size 1 _) (fun e => by have := Option.some.inj e; omega), put2_below (HB.out.trans (k2.mono (Nat.le_succ _))) (Nat.le_refl _) _ _⟩
  clear HB HR hR1 k1 k2 k3
  go_wp2
  exact bodyPost_ret (v := .agg #[.int .i64 (m : Int), .slice (some ⟨w.heap.size + 1, 0, none⟩) q q]) (by simp [results, Try.results47, go_sem, z0, z1]) rfl ⟨w.heap.size + 1, rfl, HF.out.1, by omega, HF.out.2⟩
end Go.Proofs.Ytaiikhbfnfcalaa

namespace Go.Proofs.Ytaiikhbfnfcalaa
open Go.RowKit

theorem right_no (N : Int) (ws : List Int) (h : isBd N = false) : ¬ RightS N ws := fun e => by
  have h1 := e.lo
  have h2 := e.hi
  have := isBd_false h
  omega
end Go.Proofs.Ytaiikhbfnfcalaa

namespace Go.Proofs.Ytaiikhbfnfcalaa
open Go.RowKit

theorem u64_pow {r : Nat} (h : r < 64) : IntKind.u64.wrap (2 ^ r) = ((2 ^ r : Nat) : Int) := by
  have hp : 2 ^ r < 2 ^ 64 := Nat.pow_lt_pow_right (by decide) h
  have e : (2 ^ r : Int) = ((2 ^ r : Nat) : Int) := by simp
  rw [e]
  exact u64_lit _ (Int.natCast_nonneg _) (by omega)
theorem i64_small (p : Nat) (hp : p ≤ 65536) : IntKind.i64.wrap (p : Int) = (p : Int) := by
  rw [IntKind.wrap_i64]
  omega
theorem wrap_small (p : Nat) (hp : p ≤ 65536) : RowKit.wrap64 (p : Int) = (p : Int) := by
  unfold RowKit.wrap64
  omega
theorem IsSet.snoc14 {n : Nat} {l : List Int} {ws : List Int} (h : IsSet n (inList l) ws) {x : Nat} (hx : x < n) : IsSet n (inList (l ++ [(x : Int)])) (ws.set (x / 64) (((ws.getD (x / 64) 0).toNat ||| 2 ^ (x % 64) : Nat) : Int)) :=
  (h.or_one hx).congr (fun i _ => (inList_snoc l x i).symm)
set_option maxRecDepth 20000 in
set_option maxHeartbeats 6400000 in
theorem x14of_any (n : Int) (a : Option Addr) (len cap : Nat) (xs : List Int) (w : World) (hL : Lsts w a len cap xs) (hlen : len ≤ 17592186044416) : Calls Try.prog 37 #[.int .i64 n, .slice a len cap] w fun e w' => OfT14 n xs w e w' := by
  have hb := balloc w (.cells #[.int .i64 0, .slice none 0 0] 42)
  have hR := heap_alloc_new w (.cells #[.int .i64 0, .slice none 0 0] 42)
  have HC := (show Hid (∀ wx : World, _) from fun wx => x14bound_any n wx)
  have HB := (show Hid _ from hb)
  have HR : Hid ((w.alloc (.cells #[.int .i64 0, .slice none 0 0] 42)).heap[w.heap.size]? = some (.cells #[.int .i64 0, .slice none 0 0] 42 (0, 0))) := hR
  have HLs : Hid (Lsts w a len cap xs) := hL
  clear hb hR hL
  go_enter Try.func37, Try.ntmps37
  go_wp2_with fail
  refine Calls.mono (HC.out _) ?_
  rintro e w1 ⟨rfl, rfl⟩
  clear HC
  obtain ⟨b, hb⟩ : ∃ b, b = isBd n := ⟨_, rfl⟩
  rw [← hb]
  dsimp only
  cases b with
  | false =>
    have HF : Hid ((n < 0 ∨ 65536 < n ∨ ∃ x, x ∈ xs ∧ (x < 0 ∨ n ≤ x)) ∧ Below w.heap.size w (w.alloc (.cells #[.int .i64 0, .slice none 0 0] 42))) := ⟨by
      rcases isBd_false hb.symm with e | e
      · exact .inl e
      · exact .inr (.inl e), HB.out⟩
    obtain ⟨⟨r0, f0⟩, ⟨r1, f1⟩, -, -⟩ := put2_cells HR.out (.int .i64 0) (.slice none 0 0)
    clear HB HR hb
    go_wp2
    exact bodyPost_ret (v := .tuple #[.agg #[.int .i64 0, .slice none 0 0], .int .i64 1]) (by simp [results, Try.results37, go_sem]) rfl ⟨0, none, 0, 0, [], 1, rfl, ⟨rfl, Nat.le_refl _, Nat.zero_le _, fun h => absurd h (Nat.lt_irrefl _), fun x hx => by cases hx⟩, .inl ⟨HF.out.1, rfl, rfl, rfl⟩, HF.out.2⟩
  | true =>
    obtain ⟨m, rfl, hm⟩ := isBd_true hb.symm
    have HE := (show Hid _ from x14empty_any m hm (w.alloc (.cells #[.int .i64 0, .slice none 0 0] 42)))
    clear hb
    go_wp2_with fail
    refine Calls.mono HE.out ?_
    rintro e w1 ⟨g, rfl, k1, k2, k3⟩
    have hg : w.heap.size + 1 ≤ g := by simpa using k2
    have hg2 : g < w1.heap.size := k1.lt14
    have hR1 : w1.heap[w.heap.size]? = some (.cells #[.int .i64 0, .slice none 0 0] 42 (0, 0)) := (k3.block _ (by simp)).trans HR.out
    obtain ⟨q, hq⟩ : ∃ q, q = (m + 63) / 64 := ⟨_, rfl⟩
    rw [← hq] at k1
    rw [← hq]
    have hb2 := balloc w1 (.cells #[.int .i64 (m : Int), .slice (some ⟨g, 0, none⟩) q q] 42)
    have hw1 : w.heap.size < w1.heap.size := by omega
    have hO : OfAt w (w1.alloc (.cells #[.int .i64 (m : Int), .slice (some ⟨g, 0, none⟩) q q] 42)) w.heap.size w1.heap.size g m q (noughts q) := by
      refine ⟨bthen (bthen HB.out k3) hb2, (hb2.block _ hw1).trans hR1, heap_alloc_new _ _, ?_, by simp [noughts], ⟨Nat.le_refl _, by omega, by omega⟩, ⟨by omega, by omega, by omega⟩⟩
      obtain ⟨cur, q1, q2⟩ := k1
      exact ⟨cur, (hb2.block _ hg2).trans q1, q2⟩
    have HO : Hid (OfAt w (w1.alloc (.cells #[.int .i64 (m : Int), .slice (some ⟨g, 0, none⟩) q q] 42)) w.heap.size w1.heap.size g m q (noughts q)) := hO
    have HS0 : Hid (IsSet m (inList (xs.take 0)) (noughts q)) := by
      have := (IsSet.empty m).congr (g := inList (xs.take 0)) (fun i _ => by unfold inList; simp)
      show IsSet _ _ _
      rw [hq]
      exact this
    obtain ⟨s, hs⟩ : ∃ s, s = w1.heap.size := ⟨_, rfl⟩
    obtain ⟨V, hV⟩ : ∃ V, V = w1.alloc (.cells #[.int .i64 (m : Int), .slice (some ⟨g, 0, none⟩) q q] 42) := ⟨_, rfl⟩
    have HV : Hid (V = w1.alloc (.cells #[.int .i64 (m : Int), .slice (some ⟨g, 0, none⟩) q q] 42) ∧ s = w1.heap.size) := ⟨hV, hs⟩
    have HQ : Hid (q = (m + 63) / 64) := hq
    have hq2 : q ≤ 1024 := by omega
    rw [← hs, ← hV] at HO
    have HLc : Hid (xs.length = len) := HLs.out.hlen
    obtain ⟨⟨c0, c1, c2, c3⟩, c4, c5⟩ := HO.out.cells
    clear HE HB HR hR1 k1 k2 k3 hb2 hO hg hg2 hw1 hV hs hq
    dsimp only
    go_upto_region 4 with fail
    rw [← HV.out.1, ← HV.out.2]
    clear HV
    go_wp2
    go_loopw [17] (fun v17 wr => ∃ k : Nat, v17 = .int .i64 (k : Int) ∧ k ≤ len ∧ ∃ ws, OfAt w wr w.heap.size s g m q ws ∧ IsSet m (inList (xs.take k)) ws ∧ ∀ x, x ∈ xs.take k → 0 ≤ x ∧ x < (m : Int)) (fun v17 _ => len - (intOf v17).toNat)
    case atStart => exact ⟨0, rfl, Nat.zero_le _, noughts q, HO.out, HS0.out, fun x hx => by cases hx⟩
    case round =>
      obtain ⟨k, rfl, hk, ws, hA, hS, hall⟩ := hrel
      clear HO HS0 c0 c1 c2 c3 c4 c5
      obtain ⟨⟨c0, c1, c2, c3⟩, c4, c5⟩ := hA.cells
      have hlen2 := hA.len
      by_cases hlt : k < len
      · have hlti : (k : Int) < (len : Int) := by omega
        have hk0 : (0 : Int) ≤ (k : Int) := by omega
        obtain ⟨b, off, rfl, hc⟩ := (HLs.out.below hA.below).cells (by omega)
        have cx := hc k hlt
        have hxl := HLc.out
        have hmem : xs.getD k 0 ∈ xs := by rw [show xs.getD k 0 = xs[k]'(by omega) by simp [List.getD, hxl, hlt]]; exact List.getElem_mem _
        have htk := take_snoc14 (xs := xs) (i := k) (by omega)
        obtain ⟨X, hX⟩ : ∃ X, X = xs.getD k 0 := ⟨_, rfl⟩
        rw [← hX] at cx hmem htk
        clear hX hc
        by_cases h0 : X < 0
        · have d0 : decide (X < 0) = true := decide_eq_true h0
          have HF : Hid ((∃ x, x ∈ xs ∧ (x < 0 ∨ (m : Int) ≤ x)) ∧ Below w.heap.size w ((wr.setCell ⟨w.heap.size, 0, none⟩ (.int .i64 0)).setCell ⟨w.heap.size, 1, none⟩ (.slice none 0 0))) := ⟨⟨X, hmem, .inl h0⟩, put2_below hA.below (Nat.le_refl _) _ _⟩
          obtain ⟨-, -, z0, z1⟩ := put2_cells hA.r (.int .i64 0) (.slice none 0 0)
          clear h0 hA hS hall hmem htk hlt
          go_wp2
          exact bodyPost_ret (v := .tuple #[.agg #[.int .i64 0, .slice none 0 0], .int .i64 1]) (by simp [results, Try.results37, go_sem, z0, z1]) rfl ⟨0, none, 0, 0, [], 1, rfl, ⟨rfl, Nat.le_refl _, Nat.zero_le _, fun h => absurd h (Nat.lt_irrefl _), fun x hx => by cases hx⟩, .inl ⟨.inr (.inr HF.out.1), rfl, rfl, rfl⟩, HF.out.2⟩
        have d0 : decide (X < 0) = false := decide_eq_false h0
        obtain ⟨x, rfl⟩ : ∃ x : Nat, X = (x : Int) := ⟨X.toNat, by omega⟩
        by_cases h1 : m ≤ x
        · have d1 : decide (m ≤ x) = true := decide_eq_true h1
          have HF : Hid ((∃ x, x ∈ xs ∧ (x < 0 ∨ (m : Int) ≤ x)) ∧ Below w.heap.size w ((wr.setCell ⟨w.heap.size, 0, none⟩ (.int .i64 0)).setCell ⟨w.heap.size, 1, none⟩ (.slice none 0 0))) := ⟨⟨(x : Int), hmem, .inr (by omega)⟩, put2_below hA.below (Nat.le_refl _) _ _⟩
          obtain ⟨-, -, z0, z1⟩ := put2_cells hA.r (.int .i64 0) (.slice none 0 0)
          clear h0 h1 hA hS hall hmem htk hlt
          go_wp2
          exact bodyPost_ret (v := .tuple #[.agg #[.int .i64 0, .slice none 0 0], .int .i64 1]) (by simp [results, Try.results37, go_sem, z0, z1]) rfl ⟨0, none, 0, 0, [], 1, rfl, ⟨rfl, Nat.le_refl _, Nat.zero_le _, fun h => absurd h (Nat.lt_irrefl _), fun x hx => by cases hx⟩, .inl ⟨.inr (.inr HF.out.1), rfl, rfl, rfl⟩, HF.out.2⟩
        have d1 : decide (m ≤ x) = false := decide_eq_false h1
        have hq0 := HQ.out
        have hall2 : ∀ y, y ∈ xs.take (k + 1) → 0 ≤ y ∧ y < (m : Int) := fun y hy => by
          rw [htk] at hy
          rcases List.mem_append.1 hy with r | r
          · exact hall y r
          · simp at r
            omega
        have hS2 := hS.snoc14 (x := x) (by omega)
        rw [← htk] at hS2
        obtain ⟨p, hp⟩ : ∃ p, p = x / 64 := ⟨_, rfl⟩
        obtain ⟨r, hr⟩ : ∃ r, r = x % 64 := ⟨_, rfl⟩
        have hpq : p < q := by omega
        have hr64 : r < 64 := by omega
        have hp65 : p ≤ 65536 := by omega
        have t1 : (x : Int).tdiv 64 = (p : Int) := by rw [Int.tdiv_eq_ediv_of_nonneg (Int.natCast_nonneg _), hp]; rfl
        have t2 : (x : Int).tmod 64 = (r : Int) := by rw [Int.tmod_eq_emod_of_nonneg (Int.natCast_nonneg _), hr]; rfl
        have hpi : (p : Int) < (q : Int) := Int.ofNat_lt.2 hpq
        have hp0 : (0 : Int) ≤ (p : Int) := Int.natCast_nonneg _
        have hwp : RowKit.wrap64 (p : Int) = (p : Int) := wrap_small p hp65
        have hwi : IntKind.i64.wrap (p : Int) = (p : Int) := i64_small p hp65
        have hr0 : ¬ (r : Int) < 0 := Int.not_lt.2 (Int.natCast_nonneg _)
        obtain ⟨o, ho⟩ : ∃ o, o = (ws.getD p 0).toNat := ⟨_, rfl⟩
        have cm := blk_word hA.b (q := p) (by rw [hlen2]; exact hpq) hS.dig
        have fm := blk_thaw hA.b p
        have hol := digs_getD hS.dig p
        have hol2 : o < 18446744073709551616 := by rw [ho]; exact (Int.toNat_lt hol.1).2 hol.2
        rw [← ho] at cm
        rw [← hp, ← hr, ← ho] at hS2
        have hz := u64_pow hr64
        have hz2 : 2 ^ r < 18446744073709551616 := Nat.pow_lt_pow_right (m := r) (n := 64) (by decide) hr64
        have hor := bits_or_u64_nat o (2 ^ r) hol2 hz2
        obtain ⟨Z, hZ⟩ : ∃ Z, Z = 2 ^ r := ⟨_, rfl⟩
        rw [← hZ] at hz hor hS2
        obtain ⟨y, hy⟩ : ∃ y, y = o ||| Z := ⟨_, rfl⟩
        rw [← hy] at hor hS2
        have HN2 : Hid (OfAt w (wr.setCell ⟨g, p, none⟩ (.int .u64 (y : Int))) w.heap.size s g m q (ws.set p (y : Int)) ∧ IsSet m (inList (xs.take (k + 1))) (ws.set p (y : Int)) ∧ (∀ y, y ∈ xs.take (k + 1) → 0 ≤ y ∧ y < (m : Int)) ∧ k < len) := ⟨hA.set p _, hS2, hall2, hlt⟩
        clear hA hS hS2 hall hall2 hmem htk hlt h0 h1 hq0 hol hp65 hol2 hpq hz2 hZ hy ho hp hr
        go_wp2_with fail
        go_region_with (fail)
        all_goals
          go_wp2
          go_roundw
        all_goals first
          | exact ⟨k + 1, by go_num, HN2.out.2.2.2, _, HN2.out.1.grow (bdr12 (Below.refl _ _)), HN2.out.2.1, HN2.out.2.2.1⟩
          | exact ⟨k + 1, by go_num, HN2.out.2.2.2, _, HN2.out.1, HN2.out.2.1, HN2.out.2.2.1⟩
          | (have := HN2.out.2.2.2; simp [intOf]; omega)
      · have hkd : decide (k < len) = false := decide_eq_false hlt
        have et : xs.take k = xs := List.take_of_length_le (by have := HLc.out; omega)
        rw [et] at hS hall
        obtain ⟨⟨r0, f0⟩, ⟨r1, f1⟩, z0, z1⟩ := put2_cells hA.r (.int .i64 (m : Int)) (.slice (some ⟨g, 0, none⟩) q q)
        have hgr := World.grownBy.trans (grown_set wr w.heap.size 0 (.int .i64 (m : Int))) (grown_set _ w.heap.size 1 (.slice (some ⟨g, 0, none⟩) q q))
        have hbk := (hA.b.grown hgr (fun e => hA.ne.1 (Option.some.inj e).symm)).nums hS.dig hlen2 (by omega)
        have HF : Hid (Nums ((wr.setCell ⟨w.heap.size, 0, none⟩ (.int .i64 (m : Int))).setCell ⟨w.heap.size, 1, none⟩ (.slice (some ⟨g, 0, none⟩) q q)) (some ⟨g, 0, none⟩) q q ws ∧ IsSet m (inList xs) ws ∧ (∀ x, x ∈ xs → 0 ≤ x ∧ x < (m : Int)) ∧ Below w.heap.size w ((wr.setCell ⟨w.heap.size, 0, none⟩ (.int .i64 (m : Int))).setCell ⟨w.heap.size, 1, none⟩ (.slice (some ⟨g, 0, none⟩) q q))) := ⟨hbk, hS, hall, put2_below hA.below (Nat.le_refl _) _ _⟩
        clear hlt hA hS hall hgr hbk hlen2 et
        go_wp2
        exact bodyPost_ret (v := .tuple #[.agg #[.int .i64 (m : Int), .slice (some ⟨g, 0, none⟩) q q], .int .i64 0]) (by simp [results, Try.results37, go_sem, z0, z1]) rfl ⟨(m : Int), _, q, q, ws, 0, rfl, HF.out.1, .inr ⟨⟨by omega, by omega, HF.out.2.2.1⟩, rfl, HF.out.2.1, rfl⟩, HF.out.2.2.2⟩
end Go.Proofs.Ytaiikhbfnfcalaa

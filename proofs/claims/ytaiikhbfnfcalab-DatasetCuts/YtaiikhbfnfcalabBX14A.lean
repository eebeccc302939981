/-
  The program's sets: isBound, wordsFor, wholeWord, empty, New.
  The program's sets: Right.
  The program's sets: Of.
-/
import Derived.Test.YtaiikhbfnfcalabB14A
import Derived.Test.YtaiikhbfnfcalabR14F
import Derived.BigQuiet
namespace Go.Proofs.Ytaiikhbfnfcalab
open Go.RowKit

/-- Whether a set may be of the numbers below n. -/
def isBd (n : Int) : Bool := decide (0 ≤ n) && decide (n ≤ 65536)
theorem isBd_true {n : Int} (h : isBd n = true) : ∃ m : Nat, n = (m : Int) ∧ m ≤ 65536 := by
  unfold isBd at h
  simp at h
  exact ⟨n.toNat, by omega, by omega⟩
theorem isBd_false {n : Int} (h : isBd n = false) : n < 0 ∨ 65536 < n := by
  unfold isBd at h
  simp at h
  omega
theorem isBd_nat {m : Nat} (h : m ≤ 65536) : isBd (m : Int) = true := by
  unfold isBd
  simp
  omega
set_option maxRecDepth 20000 in
set_option maxHeartbeats 1600000 in
theorem x14bound_any (n : Int) (w : World) : Calls Try.prog 21 #[.int .i64 n] w fun e w' => e = .returned (.bool (isBd n)) ∧ w = w' := by
  obtain ⟨b, hb⟩ : ∃ b, b = isBd n := ⟨_, rfl⟩
  rw [← hb]
  by_cases h0 : 0 ≤ n
  · have d0 : decide (0 ≤ n) = true := decide_eq_true h0
    by_cases h1 : n ≤ 65536
    · have d1 : decide (n ≤ 65536) = true := decide_eq_true h1
      have HB : Hid (b = true) := by show b = true; rw [hb]; unfold isBd; rw [d0, d1]; rfl
      clear hb h0 h1
      go_enter Try.func21, Try.ntmps21
      go_wp2
      go_ret
      exact ⟨by rw [HB.out]; rfl, by trivial⟩
    · have d1 : decide (n ≤ 65536) = false := decide_eq_false h1
      have HB : Hid (b = false) := by show b = false; rw [hb]; unfold isBd; rw [d1]; simp
      clear hb h0 h1
      go_enter Try.func21, Try.ntmps21
      go_wp2
      go_ret
      exact ⟨by rw [HB.out]; rfl, by trivial⟩
  · have d0 : decide (0 ≤ n) = false := decide_eq_false h0
    have HB : Hid (b = false) := by show b = false; rw [hb]; unfold isBd; rw [d0]; simp
    clear hb h0
    go_enter Try.func21, Try.ntmps21
    go_wp2
    go_ret
    exact ⟨by rw [HB.out]; rfl, by trivial⟩
set_option maxRecDepth 20000 in
set_option maxHeartbeats 1600000 in
theorem x14words_any (m : Nat) (hm : m ≤ 65536) (w : World) : Calls Try.prog 23 #[.int .i64 (m : Int)] w fun e w' => e = .returned (.int .i64 (((m + 63) / 64 : Nat) : Int)) ∧ w = w' := by
  obtain ⟨q, hq⟩ : ∃ q, q = (m + 63) / 64 := ⟨_, rfl⟩
  have e1 : ((m : Int) + 64 - 1).tdiv 64 = (q : Int) := by rw [Int.tdiv_eq_ediv_of_nonneg (by omega)]; omega
  have hq2 : q ≤ 1024 := by omega
  have hwq : RowKit.wrap64 (q : Int) = (q : Int) := by unfold RowKit.wrap64; omega
  rw [← hq]
  clear hq
  go_enter Try.func23, Try.ntmps23
  go_wp2
  go_ret
  exact ⟨by rfl, by trivial⟩
set_option maxRecDepth 20000 in
set_option maxHeartbeats 1600000 in
theorem x14whole_any (n q : Nat) (hq : 64 * q < n) (hn : n ≤ 65536) (w : World) : Calls Try.prog 24 #[.int .i64 (n : Int), .int .i64 (q : Int)] w fun e w' => e = .returned (.int .u64 ((2 ^ inWord n q - 1 : Nat) : Int)) ∧ w = w' := by
  obtain ⟨c, hc⟩ : ∃ c, c = inWord n q := ⟨_, rfl⟩
  have hc1 : (c : Int) = min ((n : Int) - (q : Int) * 64) 64 := by rw [hc]; unfold inWord; omega
  have hc2 : c ≤ 64 := by rw [hc]; unfold inWord; omega
  have hc3 : 0 ≤ min ((n : Int) - (q : Int) * 64) 64 := by omega
  have HS : Hid (IntKind.u64.wrap (IntKind.u64.wrap (2 ^ (min ((n : Int) - (q : Int) * 64) 64).toNat) - 1) = ((2 ^ c - 1 : Nat) : Int)) := by
    show _ = _
    have hs := whole_shl hc2
    rw [Nat.min_eq_left hc2, Int.one_mul] at hs
    rw [← hc1, Int.toNat_natCast]
    exact hs
  rw [← hc]
  clear hc hc1 hc2
  go_enter Try.func24, Try.ntmps24
  go_wp2
  go_ret
  exact ⟨ret_int HS.out, by trivial⟩
/-- The empty set of the numbers below m, in new blocks. -/
def EmpT14 (m : Nat) (w : World) (e : Ending) (w' : World) : Prop := ∃ g, e = .returned (.agg #[.int .i64 (m : Int), .slice (some ⟨g, 0, none⟩) ((m + 63) / 64) ((m + 63) / 64)]) ∧ Blk w' g (noughts ((m + 63) / 64)) ∧ w.heap.size ≤ g ∧ Below w.heap.size w w'
set_option maxRecDepth 20000 in
set_option maxHeartbeats 1600000 in
theorem x14empty_any (m : Nat) (hm : m ≤ 65536) (w : World) : Calls Try.prog 22 #[.int .i64 (m : Int)] w fun e w' => EmpT14 m w e w' := by
  have hb := balloc w (.cells #[.int .i64 0, .slice none 0 0] 30)
  have hR := heap_alloc_new w (.cells #[.int .i64 0, .slice none 0 0] 30)
  have HC := (show Hid (∀ wx : World, _) from fun wx => x14words_any m hm wx)
  have HB := (show Hid _ from hb)
  have HR : Hid ((w.alloc (.cells #[.int .i64 0, .slice none 0 0] 30)).heap[w.heap.size]? = some (.cells #[.int .i64 0, .slice none 0 0] 30 (0, 0))) := hR
  unfold EmpT14
  obtain ⟨q, hq⟩ : ∃ q, q = (m + 63) / 64 := ⟨_, rfl⟩
  have hq2 : q ≤ 1024 := by omega
  rw [← hq] at HC
  rw [← hq]
  clear hb hR hq
  go_enter Try.func22, Try.ntmps22
  go_wp2_with fail
  refine Calls.mono (HC.out _) ?_
  rintro e w1 ⟨rfl, rfl⟩
  clear HC
  dsimp only
  go_wp2_with (at_make; refine wpList_mk _ rfl _ _ 28 rfl Try.underlying28 .i64 .i64 _ _ q rfl rfl (by first | rfl | omega) (by first | rfl | omega) (by omega) ?_)
  intro w1 k1 k2 k3
  have hR1 : w1.heap[w.heap.size]? = some (.cells #[.int .i64 0, .slice none 0 0] 30 (0, 0)) := (k2.block _ (by omega)).trans HR.out
  obtain ⟨⟨r0, f0⟩, ⟨r1, f1⟩, z0, z1⟩ := put2_cells hR1 (.int .i64 (m : Int)) (.slice (some ⟨w.heap.size + 1, 0, none⟩) q q)
  have HF : Hid (Blk ((w1.setCell ⟨w.heap.size, 0, none⟩ (.int .i64 (m : Int))).setCell ⟨w.heap.size, 1, none⟩ (.slice (some ⟨w.heap.size + 1, 0, none⟩) q q)) (w.heap.size + 1) (noughts q) ∧ Below w.heap.size w ((w1.setCell ⟨w.heap.size, 0, none⟩ (.int .i64 (m : Int))).setCell ⟨w.heap.size, 1, none⟩ (.slice (some ⟨w.heap.size + 1, 0, none⟩) q q))) := ⟨(k1.grown (grown_set w1 w.heap.size 0 _) (fun e => by have := Option.some.inj e; omega)).grown (grown_set _ w.heap.size 1 _) (fun e => by have := Option.some.inj e; omega), put2_below (HB.out.trans (k2.mono (Nat.le_succ _))) (Nat.le_refl _) _ _⟩
  clear HB HR hR1 k1 k2 k3
  go_wp2
  exact bodyPost_ret (v := .agg #[.int .i64 (m : Int), .slice (some ⟨w.heap.size + 1, 0, none⟩) q q]) (by simp [results, Try.results22, go_sem, z0, z1]) rfl ⟨w.heap.size + 1, rfl, HF.out.1, by omega, HF.out.2⟩
end Go.Proofs.Ytaiikhbfnfcalab

namespace Go.Proofs.Ytaiikhbfnfcalab
open Go.RowKit

theorem right_no (N : Int) (ws : List Int) (h : isBd N = false) : ¬ RightS N ws := fun e => by
  have h1 := e.lo
  have h2 := e.hi
  have := isBd_false h
  omega
set_option maxRecDepth 20000 in
set_option maxHeartbeats 6400000 in
theorem x14right_any (N : Int) (a : Option Addr) (l c : Nat) (ws : List Int) (w : World) (hN : -9223372036854775808 ≤ N ∧ N < 9223372036854775808) (h : Nums w a l c ws) :
    Calls Try.prog 14 #[.agg #[.int .i64 N, .slice a l c]] w fun e w' => ∃ b, e = .returned (.bool b) ∧ (b = true ↔ RightS N ws) ∧ Below w.heap.size w w' := by
  have hb := balloc w (.cells #[.int .i64 N, .slice a l c] 30)
  obtain ⟨V, hVe⟩ : ∃ V, V = w.alloc (.cells #[.int .i64 N, .slice a l c] 30) := ⟨_, rfl⟩
  have HVe : Hid (V = w.alloc (.cells #[.int .i64 N, .slice a l c] 30)) := hVe
  obtain ⟨G, hG⟩ : ∃ G, G = w.heap.size := ⟨_, rfl⟩
  have HG : Hid (G = w.heap.size) := hG
  have x0 : V.cell? ⟨G, 0, none⟩ = some (.int .i64 N) := by rw [hVe, hG]; simp
  have x1 : V.cell? ⟨G, 1, none⟩ = some (.slice a l c) := by rw [hVe, hG]; simp
  rw [← hVe] at hb
  have HB : Hid (Below w.heap.size w V) := hb
  have hcap := h.hcap
  have hmax := h.hmax
  unfold maxLen at hmax
  have HLn : Hid (ws.length = l) := h.hlen
  have HN : Hid (Nums V a l c ws) := h.below hb
  have HC1 : Hid (∀ wx : World, Calls Try.prog 21 #[.int .i64 N] wx fun e w' => e = .returned (.bool (isBd N)) ∧ w' = wx) := fun wx => (x14bound_any N wx).mono fun e w' q => ⟨q.1, q.2.symm⟩
  obtain ⟨z, hz⟩ : ∃ z, z = isBd N := ⟨_, rfl⟩
  rw [← hz] at HC1
  clear hb h hVe hG
  go_enter Try.func14, Try.ntmps14
  go_upto_region 1 with fail
  rw [← HVe.out, ← HG.out]
  clear HVe HG
  cases z with
  | false =>
    have HR : Hid (¬ RightS N ws) := right_no N ws hz.symm
    clear hz
    go_quiet ((go_at_call 21; exact Calls.quiet_of_same (HC1.out _)))
    go_wp2
    go_ret
    exact ⟨false, rfl, ⟨fun e => (by cases e), fun e => absurd e HR.out⟩, below_drewN HB.out _⟩
  | true =>
  obtain ⟨M, rfl, hM⟩ := isBd_true hz.symm
  have HC2 : Hid (∀ wx : World, Calls Try.prog 23 #[.int .i64 (M : Int)] wx fun e w' => e = .returned (.int .i64 (((M + 63) / 64 : Nat) : Int)) ∧ w' = wx) := fun wx => (x14words_any M hM wx).mono fun e w' q => ⟨q.1, q.2.symm⟩
  obtain ⟨q, hq⟩ : ∃ q, q = (M + 63) / 64 := ⟨_, rfl⟩
  rw [← hq] at HC2
  have hq2 : q ≤ 1024 := by omega
  by_cases n3 : l = q
  case neg =>
    have d3 : ((l : Int) != (q : Int)) = true := by simp; omega
    have d3' : ((l : Int) == (q : Int)) = false := by simp; omega
    have HR : Hid (¬ RightS (M : Int) ws) := fun e => by have := e.len; rw [HLn.out] at this; omega
    clear n3 hq hz
    go_quiet (first | (go_at_call 21; exact Calls.quiet_of_same (HC1.out _)) | (go_at_call 23; exact Calls.quiet_of_same (HC2.out _)))
    go_wp2
    go_ret
    exact ⟨false, rfl, ⟨fun e => (by cases e), fun e => absurd e HR.out⟩, below_drewN HB.out _⟩
  subst n3
  have d3 : ((l : Int) != (l : Int)) = false := by simp
  have HL : Hid (ws.length = (M + 63) / 64) := HLn.out.trans hq
  have HQ : Hid (l = (M + 63) / 64) := hq
  clear hq hz
  go_quiet (first | (go_at_call 21; exact Calls.quiet_of_same (HC1.out _)) | (go_at_call 23; exact Calls.quiet_of_same (HC2.out _)))
  clear HC1 HC2 d3
  generalize hW : World.drewN V nq = W
  replace x0 : W.cell? ⟨G, 0, none⟩ = some (.int .i64 (M : Int)) := by subst hW; simpa using x0
  replace x1 : W.cell? ⟨G, 1, none⟩ = some (.slice a l c) := by subst hW; simpa using x1
  have HNW : Hid (Nums W a l c ws ∧ Below w.heap.size w W) := by subst hW; exact ⟨HN.out.below (below_drewN (Below.refl _ _) _), below_drewN HB.out _⟩
  clear HN HB hW
  by_cases l0 : l = 0
  · subst l0
    have HR : Hid (RightS (M : Int) ws) := RightS.of_last hM HL.out (fun q e => by have := HLn.out; omega)
    go_wp2
    go_upto_region 4 with fail
    go_quiet (fail)
    go_wp2
    go_ret
    exact ⟨true, rfl, ⟨fun _ => HR.out, fun _ => rfl⟩, below_drewN HNW.out.2 _⟩
  obtain ⟨k, hk⟩ : ∃ k : Nat, l = k + 1 := ⟨l - 1, by omega⟩
  have e1 : (l : Int) - 1 = (k : Int) := by omega
  obtain ⟨b, off, m, rfl, hc, hm, hlt⟩ := word_at HNW.out.1 (q := k) (by omega)
  have HC3 : Hid (∀ wx : World, Calls Try.prog 24 #[.int .i64 (M : Int), .int .i64 (k : Int)] wx fun e w' => e = .returned (.int .u64 ((2 ^ inWord M k - 1 : Nat) : Int)) ∧ w' = wx) := fun wx => (x14whole_any M k (by have := HQ.out; omega) hM wx).mono fun e w' q => ⟨q.1, q.2.symm⟩
  have hin : inWord M k ≤ 64 := Nat.min_le_right _ _
  have hp := whole_lt hin
  have hpb := whole_bit (inWord M k)
  obtain ⟨p, hp0⟩ : ∃ p, p = 2 ^ inWord M k - 1 := ⟨_, rfl⟩
  rw [← hp0] at HC3 hp hpb
  obtain ⟨d, hand, hd1, hd2⟩ := andNot64 m p hlt hp
  have hkl : (k : Int) < (l : Int) := by omega
  have hk0 : (0 : Int) ≤ (k : Int) := by omega
  have hkn : decide ((k : Int) < 0) = false := decide_eq_false (by omega)
  have HD : Hid (d = 0 ↔ RightS (M : Int) ws) := by
    show _ ↔ _
    constructor
    · intro e
      subst e
      refine RightS.of_last hM HL.out (fun q e j hj hi => ?_)
      obtain rfl : q = k := by have := HLn.out; omega
      have := hd2 j
      rw [hpb, Nat.zero_testBit, ← hm.symm] at this
      have hjn : decide (j < inWord M q) = false := decide_eq_false (by omega)
      rw [hjn] at this
      simpa using this.symm
    · intro hr
      apply Nat.eq_of_testBit_eq
      intro j
      rw [hd2 j, Nat.zero_testBit, hpb]
      by_cases hj : j < 64
      · by_cases hi : j < inWord M k
        · simp [hi]
        · have := hr.last (q := k) (by have := HLn.out; omega) hj (by omega)
          rw [← hm] at this
          simp [this]
      · rw [bit_high hlt (by omega)]; rfl
  clear hp hpb hp0 hd1 hd2 hm hlt hin hk l0 HQ HL HLn hM hq2
  by_cases d0 : d = 0
  · subst d0
    have HR : Hid (RightS (M : Int) ws) := HD.out.1 rfl
    clear HD
    go_wp2
    go_upto_region 4 with fail
    go_quiet ((go_at_call 24; exact Calls.quiet_of_same (HC3.out _)))
    go_wp2
    go_ret
    exact ⟨true, rfl, ⟨fun _ => HR.out, fun _ => rfl⟩, below_drewN HNW.out.2 _⟩
  · have HR : Hid (¬ RightS (M : Int) ws) := fun e => d0 (HD.out.2 e)
    have hdz : ((d : Int) == 0) = false := by simp; omega
    clear HD d0
    go_wp2
    go_upto_region 4 with fail
    go_quiet ((go_at_call 24; exact Calls.quiet_of_same (HC3.out _)))
    go_wp2
    go_ret
    exact ⟨false, rfl, ⟨fun e => (by cases e), fun e => absurd e HR.out⟩, below_drewN HNW.out.2 _⟩
end Go.Proofs.Ytaiikhbfnfcalab

namespace Go.Proofs.Ytaiikhbfnfcalab
open Go.RowKit

theorem u64_pow {r : Nat} (h : r < 64) : IntKind.u64.wrap (2 ^ r) = ((2 ^ r : Nat) : Int) := by
  have hp : 2 ^ r < 2 ^ 64 := Nat.pow_lt_pow_right (by decide) h
  have e : (2 ^ r : Int) = ((2 ^ r : Nat) : Int) := by simp
  rw [e]
  exact u64_lit _ (Int.natCast_nonneg _) (by omega)
theorem i64_small (p : Nat) (hp : p ≤ 65536) : IntKind.i64.wrap (p : Int) = (p : Int) := by
  rw [IntKind.wrap_i64]
  omega
theorem wrap_small (p : Nat) (hp : p ≤ 65536) : RowKit.wrap64 (p : Int) = (p : Int) := by
  unfold RowKit.wrap64
  omega
theorem IsSet.snoc14 {n : Nat} {l : List Int} {ws : List Int} (h : IsSet n (inList l) ws) {x : Nat} (hx : x < n) : IsSet n (inList (l ++ [(x : Int)])) (ws.set (x / 64) (((ws.getD (x / 64) 0).toNat ||| 2 ^ (x % 64) : Nat) : Int)) :=
  (h.or_one hx).congr (fun i _ => (inList_snoc l x i).symm)
set_option maxRecDepth 20000 in
set_option maxHeartbeats 6400000 in
theorem x14of_any (n : Int) (a : Option Addr) (len cap : Nat) (xs : List Int) (w : World) (hL : Lsts w a len cap xs) (hlen : len ≤ 17592186044416) : Calls Try.prog 11 #[.int .i64 n, .slice a len cap] w fun e w' => OfT14 n xs w e w' := by
  have hb := balloc w (.cells #[.int .i64 0, .slice none 0 0] 30)
  have hR := heap_alloc_new w (.cells #[.int .i64 0, .slice none 0 0] 30)
  have HC := (show Hid (∀ wx : World, _) from fun wx => x14bound_any n wx)
  have HB := (show Hid _ from hb)
  have HR : Hid ((w.alloc (.cells #[.int .i64 0, .slice none 0 0] 30)).heap[w.heap.size]? = some (.cells #[.int .i64 0, .slice none 0 0] 30 (0, 0))) := hR
  have HLs : Hid (Lsts w a len cap xs) := hL
  clear hb hR hL
  go_enter Try.func11, Try.ntmps11
  go_wp2_with fail
  refine Calls.mono (HC.out _) ?_
  rintro e w1 ⟨rfl, rfl⟩
  clear HC
  obtain ⟨b, hb⟩ : ∃ b, b = isBd n := ⟨_, rfl⟩
  rw [← hb]
  dsimp only
  cases b with
  | false =>
    have HF : Hid ((n < 0 ∨ 65536 < n ∨ ∃ x, x ∈ xs ∧ (x < 0 ∨ n ≤ x)) ∧ Below w.heap.size w (w.alloc (.cells #[.int .i64 0, .slice none 0 0] 30))) := ⟨by
      rcases isBd_false hb.symm with e | e
      · exact .inl e
      · exact .inr (.inl e), HB.out⟩
    obtain ⟨⟨r0, f0⟩, ⟨r1, f1⟩, -, -⟩ := put2_cells HR.out (.int .i64 0) (.slice none 0 0)
    clear HB HR hb
    go_wp2
    exact bodyPost_ret (v := .tuple #[.agg #[.int .i64 0, .slice none 0 0], .int .i64 1]) (by simp [results, Try.results11, go_sem]) rfl ⟨0, none, 0, 0, [], 1, rfl, ⟨rfl, Nat.le_refl _, Nat.zero_le _, fun h => absurd h (Nat.lt_irrefl _), fun x hx => by cases hx⟩, .inl ⟨HF.out.1, rfl, rfl, rfl⟩, HF.out.2⟩
  | true =>
    obtain ⟨m, rfl, hm⟩ := isBd_true hb.symm
    have HE := (show Hid _ from x14empty_any m hm (w.alloc (.cells #[.int .i64 0, .slice none 0 0] 30)))
    clear hb
    go_wp2_with fail
    refine Calls.mono HE.out ?_
    rintro e w1 ⟨g, rfl, k1, k2, k3⟩
    have hg : w.heap.size + 1 ≤ g := by simpa using k2
    have hg2 : g < w1.heap.size := k1.lt14
    have hR1 : w1.heap[w.heap.size]? = some (.cells #[.int .i64 0, .slice none 0 0] 30 (0, 0)) := (k3.block _ (by simp)).trans HR.out
    obtain ⟨q, hq⟩ : ∃ q, q = (m + 63) / 64 := ⟨_, rfl⟩
    rw [← hq] at k1
    rw [← hq]
    have hb2 := balloc w1 (.cells #[.int .i64 (m : Int), .slice (some ⟨g, 0, none⟩) q q] 30)
    have hw1 : w.heap.size < w1.heap.size := by omega
    have hO : OfAt w (w1.alloc (.cells #[.int .i64 (m : Int), .slice (some ⟨g, 0, none⟩) q q] 30)) w.heap.size w1.heap.size g m q (noughts q) := by
      refine ⟨bthen (bthen HB.out k3) hb2, (hb2.block _ hw1).trans hR1, heap_alloc_new _ _, ?_, by simp [noughts], ⟨Nat.le_refl _, by omega, by omega⟩, ⟨by omega, by omega, by omega⟩⟩
      obtain ⟨cur, q1, q2⟩ := k1
      exact ⟨cur, (hb2.block _ hg2).trans q1, q2⟩
    have HO : Hid (OfAt w (w1.alloc (.cells #[.int .i64 (m : Int), .slice (some ⟨g, 0, none⟩) q q] 30)) w.heap.size w1.heap.size g m q (noughts q)) := hO
    have HS0 : Hid (IsSet m (inList (xs.take 0)) (noughts q)) := by
      have := (IsSet.empty m).congr (g := inList (xs.take 0)) (fun i _ => by unfold inList; simp)
      show IsSet _ _ _
      rw [hq]
      exact this
    obtain ⟨s, hs⟩ : ∃ s, s = w1.heap.size := ⟨_, rfl⟩
    obtain ⟨V, hV⟩ : ∃ V, V = w1.alloc (.cells #[.int .i64 (m : Int), .slice (some ⟨g, 0, none⟩) q q] 30) := ⟨_, rfl⟩
    have HV : Hid (V = w1.alloc (.cells #[.int .i64 (m : Int), .slice (some ⟨g, 0, none⟩) q q] 30) ∧ s = w1.heap.size) := ⟨hV, hs⟩
    have HQ : Hid (q = (m + 63) / 64) := hq
    have hq2 : q ≤ 1024 := by omega
    rw [← hs, ← hV] at HO
    have HLc : Hid (xs.length = len) := HLs.out.hlen
    obtain ⟨⟨c0, c1, c2, c3⟩, c4, c5⟩ := HO.out.cells
    clear HE HB HR hR1 k1 k2 k3 hb2 hO hg hg2 hw1 hV hs hq
    dsimp only
    go_upto_region 4 with fail
    rw [← HV.out.1, ← HV.out.2]
    clear HV
    go_wp2
    go_loopw [17] (fun v17 wr => ∃ k : Nat, v17 = .int .i64 (k : Int) ∧ k ≤ len ∧ ∃ ws, OfAt w wr w.heap.size s g m q ws ∧ IsSet m (inList (xs.take k)) ws ∧ ∀ x, x ∈ xs.take k → 0 ≤ x ∧ x < (m : Int)) (fun v17 _ => len - (intOf v17).toNat)
    case atStart => exact ⟨0, rfl, Nat.zero_le _, noughts q, HO.out, HS0.out, fun x hx => by cases hx⟩
    case round =>
      obtain ⟨k, rfl, hk, ws, hA, hS, hall⟩ := hrel
      clear HO HS0 c0 c1 c2 c3 c4 c5
      obtain ⟨⟨c0, c1, c2, c3⟩, c4, c5⟩ := hA.cells
      have hlen2 := hA.len
      by_cases hlt : k < len
      · have hlti : (k : Int) < (len : Int) := by omega
        have hk0 : (0 : Int) ≤ (k : Int) := by omega
        obtain ⟨b, off, rfl, hc⟩ := (HLs.out.below hA.below).cells (by omega)
        have cx := hc k hlt
        have hxl := HLc.out
        have hmem : xs.getD k 0 ∈ xs := by rw [show xs.getD k 0 = xs[k]'(by omega) by simp [List.getD, hxl, hlt]]; exact List.getElem_mem _
        have htk := take_snoc14 (xs := xs) (i := k) (by omega)
        obtain ⟨X, hX⟩ : ∃ X, X = xs.getD k 0 := ⟨_, rfl⟩
        rw [← hX] at cx hmem htk
        clear hX hc
        by_cases h0 : X < 0
        · have d0 : decide (X < 0) = true := decide_eq_true h0
          have HF : Hid ((∃ x, x ∈ xs ∧ (x < 0 ∨ (m : Int) ≤ x)) ∧ Below w.heap.size w ((wr.setCell ⟨w.heap.size, 0, none⟩ (.int .i64 0)).setCell ⟨w.heap.size, 1, none⟩ (.slice none 0 0))) := ⟨⟨X, hmem, .inl h0⟩, put2_below hA.below (Nat.le_refl _) _ _⟩
          obtain ⟨-, -, z0, z1⟩ := put2_cells hA.r (.int .i64 0) (.slice none 0 0)
          clear h0 hA hS hall hmem htk hlt
          go_wp2
          exact bodyPost_ret (v := .tuple #[.agg #[.int .i64 0, .slice none 0 0], .int .i64 1]) (by simp [results, Try.results11, go_sem, z0, z1]) rfl ⟨0, none, 0, 0, [], 1, rfl, ⟨rfl, Nat.le_refl _, Nat.zero_le _, fun h => absurd h (Nat.lt_irrefl _), fun x hx => by cases hx⟩, .inl ⟨.inr (.inr HF.out.1), rfl, rfl, rfl⟩, HF.out.2⟩
        have d0 : decide (X < 0) = false := decide_eq_false h0
        obtain ⟨x, rfl⟩ : ∃ x : Nat, X = (x : Int) := ⟨X.toNat, by omega⟩
        by_cases h1 : m ≤ x
        · have d1 : decide (m ≤ x) = true := decide_eq_true h1
          have HF : Hid ((∃ x, x ∈ xs ∧ (x < 0 ∨ (m : Int) ≤ x)) ∧ Below w.heap.size w ((wr.setCell ⟨w.heap.size, 0, none⟩ (.int .i64 0)).setCell ⟨w.heap.size, 1, none⟩ (.slice none 0 0))) := ⟨⟨(x : Int), hmem, .inr (by omega)⟩, put2_below hA.below (Nat.le_refl _) _ _⟩
          obtain ⟨-, -, z0, z1⟩ := put2_cells hA.r (.int .i64 0) (.slice none 0 0)
          clear h0 h1 hA hS hall hmem htk hlt
          go_wp2
          exact bodyPost_ret (v := .tuple #[.agg #[.int .i64 0, .slice none 0 0], .int .i64 1]) (by simp [results, Try.results11, go_sem, z0, z1]) rfl ⟨0, none, 0, 0, [], 1, rfl, ⟨rfl, Nat.le_refl _, Nat.zero_le _, fun h => absurd h (Nat.lt_irrefl _), fun x hx => by cases hx⟩, .inl ⟨.inr (.inr HF.out.1), rfl, rfl, rfl⟩, HF.out.2⟩
        have d1 : decide (m ≤ x) = false := decide_eq_false h1
        have hq0 := HQ.out
        have hall2 : ∀ y, y ∈ xs.take (k + 1) → 0 ≤ y ∧ y < (m : Int) := fun y hy => by
          rw [htk] at hy
          rcases List.mem_append.1 hy with r | r
          · exact hall y r
          · simp at r
            omega
        have hS2 := hS.snoc14 (x := x) (by omega)
        rw [← htk] at hS2
        obtain ⟨p, hp⟩ : ∃ p, p = x / 64 := ⟨_, rfl⟩
        obtain ⟨r, hr⟩ : ∃ r, r = x % 64 := ⟨_, rfl⟩
        have hpq : p < q := by omega
        have hr64 : r < 64 := by omega
        have hp65 : p ≤ 65536 := by omega
        have t1 : (x : Int).tdiv 64 = (p : Int) := by rw [Int.tdiv_eq_ediv_of_nonneg (Int.natCast_nonneg _), hp]; rfl
        have t2 : (x : Int).tmod 64 = (r : Int) := by rw [Int.tmod_eq_emod_of_nonneg (Int.natCast_nonneg _), hr]; rfl
        have hpi : (p : Int) < (q : Int) := Int.ofNat_lt.2 hpq
        have hp0 : (0 : Int) ≤ (p : Int) := Int.natCast_nonneg _
        have hwp : RowKit.wrap64 (p : Int) = (p : Int) := wrap_small p hp65
        have hwi : IntKind.i64.wrap (p : Int) = (p : Int) := i64_small p hp65
        have hr0 : ¬ (r : Int) < 0 := Int.not_lt.2 (Int.natCast_nonneg _)
        obtain ⟨o, ho⟩ : ∃ o, o = (ws.getD p 0).toNat := ⟨_, rfl⟩
        have cm := blk_word hA.b (q := p) (by rw [hlen2]; exact hpq) hS.dig
        have fm := blk_thaw hA.b p
        have hol := digs_getD hS.dig p
        have hol2 : o < 18446744073709551616 := by rw [ho]; exact (Int.toNat_lt hol.1).2 hol.2
        rw [← ho] at cm
        rw [← hp, ← hr, ← ho] at hS2
        have hz := u64_pow hr64
        have hz2 : 2 ^ r < 18446744073709551616 := Nat.pow_lt_pow_right (m := r) (n := 64) (by decide) hr64
        have hor := bits_or_u64_nat o (2 ^ r) hol2 hz2
        obtain ⟨Z, hZ⟩ : ∃ Z, Z = 2 ^ r := ⟨_, rfl⟩
        rw [← hZ] at hz hor hS2
        obtain ⟨y, hy⟩ : ∃ y, y = o ||| Z := ⟨_, rfl⟩
        rw [← hy] at hor hS2
        have HN2 : Hid (OfAt w (wr.setCell ⟨g, p, none⟩ (.int .u64 (y : Int))) w.heap.size s g m q (ws.set p (y : Int)) ∧ IsSet m (inList (xs.take (k + 1))) (ws.set p (y : Int)) ∧ (∀ y, y ∈ xs.take (k + 1) → 0 ≤ y ∧ y < (m : Int)) ∧ k < len) := ⟨hA.set p _, hS2, hall2, hlt⟩
        clear hA hS hS2 hall hall2 hmem htk hlt h0 h1 hq0 hol hp65 hol2 hpq hz2 hZ hy ho hp hr
        go_wp2_with fail
        go_region_with (fail)
        all_goals
          go_wp2
          go_roundw
        all_goals first
          | exact ⟨k + 1, by go_num, HN2.out.2.2.2, _, HN2.out.1.grow (bdr12 (Below.refl _ _)), HN2.out.2.1, HN2.out.2.2.1⟩
          | exact ⟨k + 1, by go_num, HN2.out.2.2.2, _, HN2.out.1, HN2.out.2.1, HN2.out.2.2.1⟩
          | (have := HN2.out.2.2.2; simp [intOf]; omega)
      · have hkd : decide (k < len) = false := decide_eq_false hlt
        have et : xs.take k = xs := List.take_of_length_le (by have := HLc.out; omega)
        rw [et] at hS hall
        obtain ⟨⟨r0, f0⟩, ⟨r1, f1⟩, z0, z1⟩ := put2_cells hA.r (.int .i64 (m : Int)) (.slice (some ⟨g, 0, none⟩) q q)
        have hgr := World.grownBy.trans (grown_set wr w.heap.size 0 (.int .i64 (m : Int))) (grown_set _ w.heap.size 1 (.slice (some ⟨g, 0, none⟩) q q))
        have hbk := (hA.b.grown hgr (fun e => hA.ne.1 (Option.some.inj e).symm)).nums hS.dig hlen2 (by omega)
        have HF : Hid (Nums ((wr.setCell ⟨w.heap.size, 0, none⟩ (.int .i64 (m : Int))).setCell ⟨w.heap.size, 1, none⟩ (.slice (some ⟨g, 0, none⟩) q q)) (some ⟨g, 0, none⟩) q q ws ∧ IsSet m (inList xs) ws ∧ (∀ x, x ∈ xs → 0 ≤ x ∧ x < (m : Int)) ∧ Below w.heap.size w ((wr.setCell ⟨w.heap.size, 0, none⟩ (.int .i64 (m : Int))).setCell ⟨w.heap.size, 1, none⟩ (.slice (some ⟨g, 0, none⟩) q q))) := ⟨hbk, hS, hall, put2_below hA.below (Nat.le_refl _) _ _⟩
        clear hlt hA hS hall hgr hbk hlen2 et
        go_wp2
        exact bodyPost_ret (v := .tuple #[.agg #[.int .i64 (m : Int), .slice (some ⟨g, 0, none⟩) q q], .int .i64 0]) (by simp [results, Try.results11, go_sem, z0, z1]) rfl ⟨(m : Int), _, q, q, ws, 0, rfl, HF.out.1, .inr ⟨⟨by omega, by omega, HF.out.2.2.1⟩, rfl, HF.out.2.1, rfl⟩, HF.out.2.2.2⟩
end Go.Proofs.Ytaiikhbfnfcalab

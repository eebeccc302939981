/-
  The program's sets: isBound, wordsFor, wholeWord, empty, New.
-/
import Derived.Test.YtfgccldkbolkoaaX14M
import Derived.Test.YtfgccldkbolkoaaRef14F
namespace Go.Proofs.Ytfgccldkbolkoaa
open Go.RowKit

/-- Whether a set may be of the numbers below n. -/
def isBd (n : Int) : Bool := decide (0 ≤ n) && decide (n ≤ 65536)
theorem isBd_true {n : Int} (h : isBd n = true) : ∃ m : Nat, n = (m : Int) ∧ m ≤ 65536 := by
  unfold isBd at h
  simp at h
  exact ⟨n.toNat, by omega, by omega⟩
theorem isBd_false {n : Int} (h : isBd n = false) : n < 0 ∨ 65536 < n := by
  unfold isBd at h
  simp at h
  omega
theorem isBd_nat {m : Nat} (h : m ≤ 65536) : isBd (m : Int) = true := by
  unfold isBd
  simp
  omega
set_option maxRecDepth 20000 in
set_option maxHeartbeats 1600000 in
theorem x14bound_any (n : Int) (w : World) : Calls Try.prog 21 #[.int .i64 n] w fun e w' => e = .returned (.bool (isBd n)) ∧ w = w' := by
  obtain ⟨b, hb⟩ : ∃ b, b = isBd n := ⟨_, rfl⟩
  rw [← hb]
  by_cases h0 : 0 ≤ n
  · have d0 : decide (0 ≤ n) = true := decide_eq_true h0
    by_cases h1 : n ≤ 65536
    · have d1 : decide (n ≤ 65536) = true := decide_eq_true h1
      have HB : Hid (b = true) := by show b = true; rw [hb]; unfold isBd; rw [d0, d1]; rfl
      clear hb h0 h1
      go_enter Try.func21, Try.ntmps21
      go_wp2
      go_ret
      exact ⟨by rw [HB.out]; rfl, by trivial⟩
    · have d1 : decide (n ≤ 65536) = false := decide_eq_false h1
      have HB : Hid (b = false) := by show b = false; rw [hb]; unfold isBd; rw [d1]; simp
      clear hb h0 h1
      go_enter Try.func21, Try.ntmps21
      go_wp2
      go_ret
      exact ⟨by rw [HB.out]; rfl, by trivial⟩
  · have d0 : decide (0 ≤ n) = false := decide_eq_false h0
    have HB : Hid (b = false) := by show b = false; rw [hb]; unfold isBd; rw [d0]; simp
    clear hb h0
    go_enter Try.func21, Try.ntmps21
    go_wp2
    go_ret
    exact ⟨by rw [HB.out]; rfl, by trivial⟩
set_option maxRecDepth 20000 in
set_option maxHeartbeats 1600000 in
theorem x14words_any (m : Nat) (hm : m ≤ 65536) (w : World) : Calls Try.prog 32 #[.int .i64 (m : Int)] w fun e w' => e = .returned (.int .i64 (((m + 63) / 64 : Nat) : Int)) ∧ w = w' := by
  obtain ⟨q, hq⟩ : ∃ q, q = (m + 63) / 64 := ⟨_, rfl⟩
  have e1 : ((m : Int) + 64 - 1).tdiv 64 = (q : Int) := by rw [Int.tdiv_eq_ediv_of_nonneg (by omega)]; omega
  have hq2 : q ≤ 1024 := by omega
  have hwq : RowKit.wrap64 (q : Int) = (q : Int) := by unfold RowKit.wrap64; omega
  rw [← hq]
  clear hq
  go_enter Try.func32, Try.ntmps32
  go_wp2
  go_ret
  exact ⟨by rfl, by trivial⟩
set_option maxRecDepth 20000 in
set_option maxHeartbeats 1600000 in
theorem x14whole_any (n q : Nat) (hq : 64 * q < n) (hn : n ≤ 65536) (w : World) : Calls Try.prog 23 #[.int .i64 (n : Int), .int .i64 (q : Int)] w fun e w' => e = .returned (.int .u64 ((2 ^ inWord n q - 1 : Nat) : Int)) ∧ w = w' := by
  obtain ⟨c, hc⟩ : ∃ c, c = inWord n q := ⟨_, rfl⟩
  have hc1 : (c : Int) = min ((n : Int) - (q : Int) * 64) 64 := by rw [hc]; unfold inWord; omega
  have hc2 : c ≤ 64 := by rw [hc]; unfold inWord; omega
  have hc3 : 0 ≤ min ((n : Int) - (q : Int) * 64) 64 := by omega
  have HS : Hid (IntKind.u64.wrap (IntKind.u64.wrap (2 ^ (min ((n : Int) - (q : Int) * 64) 64).toNat) - 1) = ((2 ^ c - 1 : Nat) : Int)) := by
    show _ = _
    have hs := whole_shl hc2
    rw [Nat.min_eq_left hc2, Int.one_mul] at hs
    rw [← hc1, Int.toNat_natCast]
    exact hs
  rw [← hc]
  clear hc hc1 hc2
  go_enter Try.func23, Try.ntmps23
  go_wp2
  go_ret
  exact ⟨ret_int HS.out, by trivial⟩
/-- The empty set of the numbers below m, in new blocks. -/
def EmpT14 (m : Nat) (w : World) (e : Ending) (w' : World) : Prop := ∃ g, e = .returned (.agg #[.int .i64 (m : Int), .slice (some ⟨g, 0, none⟩) ((m + 63) / 64) ((m + 63) / 64)]) ∧ Blk w' g (noughts ((m + 63) / 64)) ∧ w.heap.size ≤ g ∧ Below w.heap.size w w'
set_option maxRecDepth 20000 in
set_option maxHeartbeats 1600000 in
theorem x14empty_any (m : Nat) (hm : m ≤ 65536) (w : World) : Calls Try.prog 22 #[.int .i64 (m : Int)] w fun e w' => EmpT14 m w e w' := by
  have hb := balloc w (.cells #[.int .i64 0, .slice none 0 0] 25)
  have hR := heap_alloc_new w (.cells #[.int .i64 0, .slice none 0 0] 25)
  have HC := (show Hid (∀ wx : World, _) from fun wx => x14words_any m hm wx)
  have HB := (show Hid _ from hb)
  have HR : Hid ((w.alloc (.cells #[.int .i64 0, .slice none 0 0] 25)).heap[w.heap.size]? = some (.cells #[.int .i64 0, .slice none 0 0] 25 (0, 0))) := hR
  unfold EmpT14
  obtain ⟨q, hq⟩ : ∃ q, q = (m + 63) / 64 := ⟨_, rfl⟩
  have hq2 : q ≤ 1024 := by omega
  rw [← hq] at HC
  rw [← hq]
  clear hb hR hq
  go_enter Try.func22, Try.ntmps22
  go_wp2_with fail
  refine Calls.mono (HC.out _) ?_
  rintro e w1 ⟨rfl, rfl⟩
  clear HC
  dsimp only
  go_wp2_with (at_make; refine wpList_mk _ rfl _ _ 23 rfl Try.underlying23 .i64 .i64 _ _ q rfl rfl (by first | rfl | omega) (by first | rfl | omega) (by omega) ?_)
  intro w1 k1 k2 k3
  have hR1 : w1.heap[w.heap.size]? = some (.cells #[.int .i64 0, .slice none 0 0] 25 (0, 0)) := (k2.block _ (by omega)).trans HR.out
  obtain ⟨⟨r0, f0⟩, ⟨r1, f1⟩, z0, z1⟩ := put2_cells hR1 (.int .i64 (m : Int)) (.slice (some ⟨w.heap.size + 1, 0, none⟩) q q)
  have HF : Hid (Blk ((w1.setCell ⟨w.heap.size, 0, none⟩ (.int .i64 (m : Int))).setCell ⟨w.heap.size, 1, none⟩ (.slice (some ⟨w.heap.size + 1, 0, none⟩) q q)) (w.heap.size + 1) (noughts q) ∧ Below w.heap.size w ((w1.setCell ⟨w.heap.size, 0, none⟩ (.int .i64 (m : Int))).setCell ⟨w.heap.size, 1, none⟩ (.slice (some ⟨w.heap.size + 1, 0, none⟩) q q))) := ⟨(k1.grown (grown_set w1 w.heap.size 0 _) (fun e => by have := Option.some.inj e; omega)).grown (grown_set _ w.heap.size 1 _) (fun e => by have := Option.some.inj e; omega), put2_below (HB.out.trans (k2.mono (Nat.le_succ _))) (Nat.le_refl _) _ _⟩
  clear HB HR hR1 k1 k2 k3
  go_wp2
  exact bodyPost_ret (v := .agg #[.int .i64 (m : Int), .slice (some ⟨w.heap.size + 1, 0, none⟩) q q]) (by simp [results, Try.results22, go_sem, z0, z1]) rfl ⟨w.heap.size + 1, rfl, HF.out.1, by omega, HF.out.2⟩
set_option maxRecDepth 20000 in
set_option maxHeartbeats 1600000 in
theorem x14new_any (n : Int) (w : World) : Calls Try.prog 6 #[.int .i64 n] w fun e w' => OfT14 n [] w e w' := by
  have hb := balloc w (.cells #[.int .i64 0, .slice none 0 0] 25)
  have hR := heap_alloc_new w (.cells #[.int .i64 0, .slice none 0 0] 25)
  have HC := (show Hid (∀ wx : World, _) from fun wx => x14bound_any n wx)
  have HB := (show Hid _ from hb)
  have HR : Hid ((w.alloc (.cells #[.int .i64 0, .slice none 0 0] 25)).heap[w.heap.size]? = some (.cells #[.int .i64 0, .slice none 0 0] 25 (0, 0))) := hR
  clear hb hR
  go_enter Try.func6, Try.ntmps6
  go_wp2_with fail
  refine Calls.mono (HC.out _) ?_
  rintro e w1 ⟨rfl, rfl⟩
  clear HC
  obtain ⟨b, hb⟩ : ∃ b, b = isBd n := ⟨_, rfl⟩
  rw [← hb]
  dsimp only
  cases b with
  | false =>
    have HF : Hid ((n < 0 ∨ 65536 < n) ∧ Below w.heap.size w (w.alloc (.cells #[.int .i64 0, .slice none 0 0] 25))) := ⟨isBd_false hb.symm, HB.out⟩
    obtain ⟨⟨r0, f0⟩, ⟨r1, f1⟩, -, -⟩ := put2_cells HR.out (.int .i64 0) (.slice none 0 0)
    clear HB HR hb
    go_wp2
    refine bodyPost_ret (v := .tuple #[.agg #[.int .i64 0, .slice none 0 0], .int .i64 1]) (by simp [results, Try.results6, go_sem]) rfl ⟨0, none, 0, 0, [], 1, rfl, ⟨rfl, Nat.le_refl _, Nat.zero_le _, fun h => absurd h (Nat.lt_irrefl _), fun x hx => by cases hx⟩, .inl ⟨?_, rfl, rfl, rfl⟩, HF.out.2⟩
    rcases HF.out.1 with e | e
    · exact .inl e
    · exact .inr (.inl e)
  | true =>
    obtain ⟨m, rfl, hm⟩ := isBd_true hb.symm
    have HE := (show Hid _ from x14empty_any m hm (w.alloc (.cells #[.int .i64 0, .slice none 0 0] 25)))
    clear hb
    go_wp2_with fail
    refine Calls.mono HE.out ?_
    rintro e w1 ⟨g, rfl, k1, k2, k3⟩
    have hg : w.heap.size < g := by have : w.heap.size + 1 ≤ g := by simpa using k2
                                    omega
    have hR1 : w1.heap[w.heap.size]? = some (.cells #[.int .i64 0, .slice none 0 0] 25 (0, 0)) := (k3.block _ (by simp)).trans HR.out
    obtain ⟨q, hq⟩ : ∃ q, q = (m + 63) / 64 := ⟨_, rfl⟩
    have hset := (IsSet.empty m).congr (g := inList []) (fun i _ => by unfold inList; simp)
    have hset2 : IsSet m (inList []) (noughts q) := by rw [hq]; exact hset
    rw [← hq] at k1
    rw [← hq]
    obtain ⟨⟨r0, f0⟩, ⟨r1, f1⟩, z0, z1⟩ := put2_cells hR1 (.int .i64 (m : Int)) (.slice (some ⟨g, 0, none⟩) q q)
    have k4 := (k1.grown (grown_set w1 w.heap.size 0 (.int .i64 (m : Int))) (fun e => by have := Option.some.inj e; omega)).grown (grown_set _ w.heap.size 1 (.slice (some ⟨g, 0, none⟩) q q)) (fun e => by have := Option.some.inj e; omega)
    have HF : Hid (Nums ((w1.setCell ⟨w.heap.size, 0, none⟩ (.int .i64 (m : Int))).setCell ⟨w.heap.size, 1, none⟩ (.slice (some ⟨g, 0, none⟩) q q)) (some ⟨g, 0, none⟩) q q (noughts q) ∧ IsSet m (inList []) (noughts q) ∧ Below w.heap.size w ((w1.setCell ⟨w.heap.size, 0, none⟩ (.int .i64 (m : Int))).setCell ⟨w.heap.size, 1, none⟩ (.slice (some ⟨g, 0, none⟩) q q))) := ⟨k4.nums hset2.dig (length_noughts q) (by omega), hset2, put2_below (bthen HB.out k3) (Nat.le_refl _) _ _⟩
    clear HE HB HR hR1 k1 k2 k3 k4 hset hset2 hg hq
    dsimp only
    go_wp2
    exact bodyPost_ret (v := .tuple #[.agg #[.int .i64 (m : Int), .slice (some ⟨g, 0, none⟩) q q], .int .i64 0]) (by simp [results, Try.results6, go_sem, z0, z1]) rfl ⟨(m : Int), _, q, q, noughts q, 0, rfl, HF.out.1, .inr ⟨⟨by omega, by omega, fun x hx => by cases hx⟩, rfl, HF.out.2.1, rfl⟩, HF.out.2.2⟩
end Go.Proofs.Ytfgccldkbolkoaa

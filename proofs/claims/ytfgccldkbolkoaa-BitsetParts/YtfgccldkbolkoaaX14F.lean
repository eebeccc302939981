/-
  The program's sets: Full.
-/
import Derived.Test.YtfgccldkbolkoaaX14B
namespace Go.Proofs.Ytfgccldkbolkoaa
open Go.RowKit

/-- The words of a whole set, the first k of them. -/
structure Wholes (m k : Nat) (ws : List Int) : Prop where
  dig : Digs 18446744073709551616 ws
  at' : ∀ j, j < k → ws.getD j 0 = ((2 ^ inWord m j - 1 : Nat) : Int)
theorem Wholes.zero (m q : Nat) : Wholes m 0 (noughts q) := ⟨fun x hx => by unfold noughts at hx; rw [List.eq_of_mem_replicate hx]; omega, fun j hj => absurd hj (Nat.not_lt_zero _)⟩
theorem Wholes.more {m k : Nat} {ws : List Int} (h : Wholes m k ws) (hk : k < ws.length) : Wholes m (k + 1) (ws.set k ((2 ^ inWord m k - 1 : Nat) : Int)) := ⟨digs_set h.dig k (whole_lt (Nat.min_le_right _ _)), fun j hj => by
  rw [getD_set hk]
  by_cases c : j = k
  · rw [if_pos c, c]
  · rw [if_neg c]
    exact h.at' j (by omega)⟩
theorem Wholes.set {m : Nat} {ws : List Int} (h : Wholes m ws.length ws) (hl : ws.length = (m + 63) / 64) : IsSet m (fun _ => true) ws := IsSet.of_words hl h.dig (fun q hq j hj => by
  rw [h.at' q hq, Int.toNat_natCast, IsSet.whole_word _ _ _ hj]
  simp)
set_option maxRecDepth 20000 in
set_option maxHeartbeats 3200000 in
theorem x14full_any (n : Int) (w : World) : Calls Try.prog 9 #[.int .i64 n] w fun e w' => FullT14 n w e w' := by
  have hb := balloc w (.cells #[.int .i64 0, .slice none 0 0] 25)
  have hR := heap_alloc_new w (.cells #[.int .i64 0, .slice none 0 0] 25)
  have HC := (show Hid (∀ wx : World, _) from fun wx => x14bound_any n wx)
  have HB := (show Hid _ from hb)
  have HR : Hid ((w.alloc (.cells #[.int .i64 0, .slice none 0 0] 25)).heap[w.heap.size]? = some (.cells #[.int .i64 0, .slice none 0 0] 25 (0, 0))) := hR
  clear hb hR
  go_enter Try.func9, Try.ntmps9
  go_wp2_with fail
  refine Calls.mono (HC.out _) ?_
  rintro e w1 ⟨rfl, rfl⟩
  clear HC
  obtain ⟨b, hb⟩ : ∃ b, b = isBd n := ⟨_, rfl⟩
  rw [← hb]
  dsimp only
  cases b with
  | false =>
    have HF : Hid ((n < 0 ∨ 65536 < n) ∧ Below w.heap.size w (w.alloc (.cells #[.int .i64 0, .slice none 0 0] 25))) := ⟨isBd_false hb.symm, HB.out⟩
    obtain ⟨⟨r0, f0⟩, ⟨r1, f1⟩, -, -⟩ := put2_cells HR.out (.int .i64 0) (.slice none 0 0)
    clear HB HR hb
    go_wp2
    exact bodyPost_ret (v := .tuple #[.agg #[.int .i64 0, .slice none 0 0], .int .i64 1]) (by simp [results, Try.results9, go_sem]) rfl ⟨0, none, 0, 0, [], 1, rfl, ⟨rfl, Nat.le_refl _, Nat.zero_le _, fun h => absurd h (Nat.lt_irrefl _), fun x hx => by cases hx⟩, .inl ⟨HF.out.1, rfl, rfl, rfl⟩, HF.out.2⟩
  | true =>
    obtain ⟨m, rfl, hm⟩ := isBd_true hb.symm
    have HE := (show Hid _ from x14empty_any m hm (w.alloc (.cells #[.int .i64 0, .slice none 0 0] 25)))
    clear hb
    go_wp2_with fail
    refine Calls.mono HE.out ?_
    rintro e w1 ⟨g, rfl, k1, k2, k3⟩
    have hg : w.heap.size + 1 ≤ g := by simpa using k2
    have hg2 : g < w1.heap.size := k1.lt14
    have hR1 : w1.heap[w.heap.size]? = some (.cells #[.int .i64 0, .slice none 0 0] 25 (0, 0)) := (k3.block _ (by simp)).trans HR.out
    obtain ⟨q, hq⟩ : ∃ q, q = (m + 63) / 64 := ⟨_, rfl⟩
    rw [← hq] at k1
    rw [← hq]
    have hb2 := balloc w1 (.cells #[.int .i64 (m : Int), .slice (some ⟨g, 0, none⟩) q q] 25)
    have hw1 : w.heap.size < w1.heap.size := by omega
    have hO : OfAt w (w1.alloc (.cells #[.int .i64 (m : Int), .slice (some ⟨g, 0, none⟩) q q] 25)) w.heap.size w1.heap.size g m q (noughts q) := by
      refine ⟨bthen (bthen HB.out k3) hb2, (hb2.block _ hw1).trans hR1, heap_alloc_new _ _, ?_, by simp [noughts], ⟨Nat.le_refl _, by omega, by omega⟩, ⟨by omega, by omega, by omega⟩⟩
      obtain ⟨cur, q1, q2⟩ := k1
      exact ⟨cur, (hb2.block _ hg2).trans q1, q2⟩
    have HO : Hid (OfAt w (w1.alloc (.cells #[.int .i64 (m : Int), .slice (some ⟨g, 0, none⟩) q q] 25)) w.heap.size w1.heap.size g m q (noughts q)) := hO
    obtain ⟨s, hs⟩ : ∃ s, s = w1.heap.size := ⟨_, rfl⟩
    obtain ⟨V, hV⟩ : ∃ V, V = w1.alloc (.cells #[.int .i64 (m : Int), .slice (some ⟨g, 0, none⟩) q q] 25) := ⟨_, rfl⟩
    have HV : Hid (V = w1.alloc (.cells #[.int .i64 (m : Int), .slice (some ⟨g, 0, none⟩) q q] 25) ∧ s = w1.heap.size) := ⟨hV, hs⟩
    have HQ : Hid (q = (m + 63) / 64) := hq
    have hq2 : q ≤ 1024 := by omega
    rw [← hs, ← hV] at HO
    obtain ⟨-, c4, c5⟩ := HO.out.cells
    clear HE HB HR hR1 k1 k2 k3 hb2 hO hg hg2 hw1 hV hs hq
    dsimp only
    go_upto_region 4 with fail
    rw [← HV.out.1, ← HV.out.2]
    clear HV
    go_wp2
    go_loopw [15] (fun v15 wr => ∃ k : Nat, v15 = .int .i64 (k : Int) ∧ k ≤ q ∧ ∃ ws, OfAt w wr w.heap.size s g m q ws ∧ Wholes m k ws) (fun v15 _ => q - (intOf v15).toNat)
    case atStart => exact ⟨0, rfl, Nat.zero_le _, noughts q, HO.out, Wholes.zero m q⟩
    case round =>
      obtain ⟨k, rfl, hk, ws, hA, hW⟩ := hrel
      clear HO c4 c5
      obtain ⟨-, c4, c5⟩ := hA.cells
      have hlen := hA.len
      by_cases hlt : k < q
      · have hlti : (k : Int) < (q : Int) := by omega
        have hk0 : (0 : Int) ≤ (k : Int) := by omega
        have hq0 := HQ.out
        have HWd : Hid (∀ wx : World, Calls Try.prog 23 #[.int .i64 (m : Int), .int .i64 (k : Int)] wx fun e w' => e = .returned (.int .u64 ((2 ^ inWord m k - 1 : Nat) : Int)) ∧ wx = w') := fun wx => x14whole_any m k (by omega) hm wx
        have HN2 : Hid (OfAt w (wr.setCell ⟨g, k, none⟩ (.int .u64 ((2 ^ inWord m k - 1 : Nat) : Int))) w.heap.size s g m q (ws.set k ((2 ^ inWord m k - 1 : Nat) : Int)) ∧ Wholes m (k + 1) (ws.set k ((2 ^ inWord m k - 1 : Nat) : Int)) ∧ k < q) := ⟨hA.set k _, hW.more (by omega), hlt⟩
        obtain ⟨p, hp⟩ : ∃ p, p = 2 ^ inWord m k - 1 := ⟨_, rfl⟩
        have cm := blk_word hA.b (q := k) (by omega) hW.dig
        have fm := blk_thaw hA.b k
        obtain ⟨o, ho⟩ : ∃ o, o = (ws.getD k 0).toNat := ⟨_, rfl⟩
        rw [← ho] at cm
        rw [← hp] at HWd HN2
        clear hp hA hW hlt hq0 ho
        go_wp2_with fail
        go_region_with ((go_at_call 23; with_reducible refine Calls.mono (HWd.out _) ?_; rintro e w2 ⟨rfl, rfl⟩))
        all_goals
          clear HWd
          go_wp2
          go_roundw
        all_goals first
          | exact ⟨k + 1, by go_num, HN2.out.2.2, _, HN2.out.1.grow (bdr12 (Below.refl _ _)), HN2.out.2.1⟩
          | exact ⟨k + 1, by go_num, HN2.out.2.2, _, HN2.out.1, HN2.out.2.1⟩
          | (have := HN2.out.2.2; simp [intOf]; omega)
      · have hkd : decide (k < q) = false := decide_eq_false hlt
        obtain rfl : k = q := by omega
        have hset := (show Wholes m ws.length ws by rw [hlen]; exact hW).set (hlen.trans HQ.out)
        obtain ⟨⟨r0, f0⟩, ⟨r1, f1⟩, z0, z1⟩ := put2_cells hA.r (.int .i64 (m : Int)) (.slice (some ⟨g, 0, none⟩) k k)
        have hgr := World.grownBy.trans (grown_set wr w.heap.size 0 (.int .i64 (m : Int))) (grown_set _ w.heap.size 1 (.slice (some ⟨g, 0, none⟩) k k))
        have hbk := (hA.b.grown hgr (fun e => hA.ne.1 (Option.some.inj e).symm)).nums hset.dig hlen (by have := HQ.out; omega)
        have HF : Hid (Nums ((wr.setCell ⟨w.heap.size, 0, none⟩ (.int .i64 (m : Int))).setCell ⟨w.heap.size, 1, none⟩ (.slice (some ⟨g, 0, none⟩) k k)) (some ⟨g, 0, none⟩) k k ws ∧ IsSet m (fun _ => true) ws ∧ Below w.heap.size w ((wr.setCell ⟨w.heap.size, 0, none⟩ (.int .i64 (m : Int))).setCell ⟨w.heap.size, 1, none⟩ (.slice (some ⟨g, 0, none⟩) k k))) := ⟨hbk, hset, put2_below hA.below (Nat.le_refl _) _ _⟩
        clear hlt hA hW hset hgr hbk hlen
        go_wp2
        exact bodyPost_ret (v := .tuple #[.agg #[.int .i64 (m : Int), .slice (some ⟨g, 0, none⟩) k k], .int .i64 0]) (by simp [results, Try.results9, go_sem, z0, z1]) rfl ⟨(m : Int), _, k, k, ws, 0, rfl, HF.out.1, .inr ⟨⟨by omega, by omega⟩, rfl, HF.out.2.1, rfl⟩, HF.out.2.2⟩
end Go.Proofs.Ytfgccldkbolkoaa

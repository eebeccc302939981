/-
  Stage 11's laws: a law's world that is new; the walk of LinkOrder.
-/
import Derived.Test.YtjokbikelklaiaaP11Begins
namespace Go.Proofs.Ytjokbikelklaiaa
open Go.RowKit

/-- The cells of a law's world while its ends are made. -/
def fresh11 (p q : Option Addr) : Array Value := #[.pointer p, .pointer q, .slice none 0 0, .slice none 0 0, .slice none 0 0, .slice none 0 0, .slice none 0 0, .slice none 0 0]
def nil11 : Nat → Value := fun _ => .slice none 0 0
theorem part_fresh {v p b : Nat} {T : Nat → Nat → Prop} (h : part11 v T nil11 p b) : (p < 2 ∧ T p b) ∨ (p = 8 ∧ b = v) := by
  rcases h with h | ⟨_, _, h⟩ | h
  · exact .inl h
  · simp [nil11, Value.ownBlock] at h
  · exact .inr h
theorem T11.new {At : World → Nat → LS → (Nat → Prop) → Prop} {w wx : World} {v g0 g1 : Nat} {N : Nat} {T0 T1 : Nat → Prop} (hh : wx.heap[v]? = some (.cells (fresh11 (some ⟨g0, 0, none⟩) (some ⟨g1, 0, none⟩)) 54 (0, 0))) (h0 : At wx g0 (LS.new N) T0) (h1 : At wx g1 (LS.new N) T1) (n0 : ∀ b, T0 b → w.heap.size ≤ b ∧ b ≠ v) (n1 : ∀ b, T1 b → w.heap.size ≤ b ∧ b ≠ v) (hd : ∀ b, T0 b → ¬ T1 b) (hv : w.heap.size ≤ v) (hb : Below w.heap.size w wx) : T11 At w v (fun _ => LS.new N) (fun _ => []) (.slice none 0 0) [] wx := by
  have hT : ∀ k b, k < 2 → (if k = 0 then T0 else T1) b → w.heap.size ≤ b ∧ b ≠ v := fun k b hk e => by
    rcases two_ways hk with rfl | rfl
    · exact n0 b e
    · exact n1 b e
  refine ⟨fun k => if k = 0 then g0 else g1, fun k => if k = 0 then T0 else T1, nil11, fun _ => [], ⟨⟨hh, fun k hk => ?_, fun j hj => RowB.nil _, fun p q b hne e1 e2 => ?_, fun p b e => ?_, hb⟩, fun k hk => ⟨rfl, rfl, rfl, fun i hi => absurd hi (by simp)⟩, RowB.nil _, fun b e => by simp [Value.ownBlock] at e⟩⟩
  · rcases two_ways hk with rfl | rfl
    · exact h0
    · exact h1
  · rcases part_fresh e1 with ⟨hp, c1⟩ | ⟨rfl, rfl⟩ <;> rcases part_fresh e2 with ⟨hq, c2⟩ | ⟨rfl, c2⟩
    · rcases two_ways hp with rfl | rfl <;> rcases two_ways hq with rfl | rfl
      · exact hne rfl
      · exact hd b c1 c2
      · exact hd b c2 c1
      · exact hne rfl
    · exact (hT p b hp c1).2 c2
    · exact (hT q b hq c2).2 rfl
    · exact hne rfl
  · rcases part_fresh e with ⟨hp, c⟩ | ⟨_, rfl⟩
    · exact (hT p b hp c).1
    · exact hv

set_option maxRecDepth 20000 in
set_option maxHeartbeats 6400000 in
theorem fresh11_any {At : World → Nat → LS → (Nat → Prop) → Prop} (A : EndOk11 At) (n : Int) (w : World) (hn : -9223372036854775808 ≤ n ∧ n < 9223372036854775808) :
    Calls Try.prog 22 #[.int .i64 n] w fun e w' => (winB n = false ∧ e = .returned (.tuple #[.pointer none, .bool false]) ∧ Below w.heap.size w w') ∨ (winB n = true ∧ ∃ v, e = .returned (.tuple #[.pointer (some ⟨v, 0, none⟩), .bool true]) ∧ T11 At w v (fun _ => LS.new n.toNat) (fun _ => []) (.slice none 0 0) [] w') := by
  have HW := balloc w (.cells (fresh11 none none) 54)
  have HH := heap_alloc_new w (.cells (fresh11 none none) 54)
  obtain ⟨v, hv⟩ : ∃ v, v = w.heap.size := ⟨_, rfl⟩
  have HV : Hid (v = w.heap.size) := hv
  have HB0 : Hid (Below w.heap.size w (w.alloc (.cells (fresh11 none none) 54)) ∧ (w.alloc (.cells (fresh11 none none) 54)).heap[v]? = some (.cells (fresh11 none none) 54 (0, 0))) := ⟨HW, by rw [hv]; exact HH⟩
  clear HW HH
  go_enter Try.func22, Try.ntmps22
  go_wp2
  rw [← hv]
  generalize hW0 : World.alloc w _ = W0
  have HB : Hid (Below w.heap.size w W0 ∧ W0.heap[v]? = some (.cells (fresh11 none none) 54 (0, 0))) := by rw [← hW0]; exact HB0.out
  clear hW0 HB0 hv
  go_loopw [5] (fun v5 wr => ∃ i : Nat, v5 = .int .i64 i ∧ i ≤ 2 ∧ Hid (Below w.heap.size w wr ∧ ((i = 0 ∧ wr.heap[v]? = some (.cells (fresh11 none none) 54 (0, 0))) ∨ (i = 1 ∧ winB n = true ∧ ∃ g0 T0, wr.heap[v]? = some (.cells (fresh11 (some ⟨g0, 0, none⟩) none) 54 (0, 0)) ∧ At wr g0 (LS.new n.toNat) T0 ∧ ∀ b, T0 b → w.heap.size ≤ b ∧ b ≠ v) ∨ (i = 2 ∧ winB n = true ∧ T11 At w v (fun _ => LS.new n.toNat) (fun _ => []) (.slice none 0 0) [] wr)))) (fun v5 _ => 2 - (intOf v5).toNat)
  case atStart => exact ⟨0, rfl, by omega, ⟨HB.out.1, .inl ⟨rfl, HB.out.2⟩⟩⟩
  case round =>
    clear HB W0
    obtain ⟨i, rfl, hi, HR⟩ := hrel
    obtain ⟨hbw, hr⟩ := HR.out
    have hvw : w.heap.size ≤ v := by rw [HV.out]; exact Nat.le_refl _
    rcases hr with ⟨rfl, hh⟩ | ⟨rfl, hwb, g0, T0, hh, h0, hn0⟩ | ⟨rfl, hwb, hT⟩
    · have HC := (show Hid _ from A.new n wr hn)
      have HHr : Hid (wr.heap[v]? = some (.cells (fresh11 none none) 54 (0, 0)) ∧ Below w.heap.size w wr) := ⟨hh, hbw⟩
      have hvl : v < wr.heap.size := (Array.getElem?_eq_some_iff.1 hh).1
      clear HR hbw hh
      go_wp2_with fail
      refine Calls.mono HC.out ?_
      rintro e w1 h1
      rcases h1 with ⟨hb, rfl, k1⟩ | ⟨hb, g, T, rfl, hx, k1, kT⟩
      · have hBB := HHr.out.2.trans (k1.mono HHr.out.2.size)
        have HF : Hid (winB n = false) := hb
        clear HC HHr k1
        go_wp2
        go_ret2
        exact .inl ⟨HF.out, rfl, hBB⟩
      · have hh1 : w1.heap[v]? = some (.cells (fresh11 none none) 54 (0, 0)) := (k1.block v hvl).trans HHr.out.1
        have z1 : w1.cell? ⟨v, 0, none⟩ = some (.pointer none) := cell_of_row w1 v 0 _ _ _ hh1
        have f1 := frozen_of_row w1 v 0 _ _ hh1
        have o1 : Only (fun b => b = v) w1 (w1.setCell ⟨v, 0, none⟩ (.pointer (some ⟨g, 0, none⟩))) := Only.of_grown (grown_set w1 v 0 _) (fun b e => by cases e; rfl)
        have HF : Hid (Below w.heap.size w (w1.setCell ⟨v, 0, none⟩ (.pointer (some ⟨g, 0, none⟩))) ∧ winB n = true ∧ ∃ g0 T0, (w1.setCell ⟨v, 0, none⟩ (.pointer (some ⟨g, 0, none⟩))).heap[v]? = some (.cells (fresh11 (some ⟨g0, 0, none⟩) none) 54 (0, 0)) ∧ At (w1.setCell ⟨v, 0, none⟩ (.pointer (some ⟨g, 0, none⟩))) g0 (LS.new n.toNat) T0 ∧ ∀ b, T0 b → w.heap.size ≤ b ∧ b ≠ v) := by
          have hbw1 := HHr.out.2.trans (k1.mono HHr.out.2.size)
          refine ⟨hbw1.trans (o1.below (fun b e => by rw [e]; exact hvw) hbw1.size), hb, g, T, by rw [heap_setCell_same w1 v 0 _ _ _ hh1]; rfl, A.other hx o1 (fun b e q => by have := kT b q; omega) (fun b e => by rw [e]; exact IsB.not hh1 (by decide)), fun b e => ?_⟩
          have := kT b e
          have := HHr.out.2.size
          exact ⟨by omega, by omega⟩
        clear HC HHr k1 kT hx hh1 o1 hb
        go_wp2
        go_roundw
        case rel => exact ⟨1, by rfl, by omega, ⟨HF.out.1, .inr (.inl ⟨rfl, HF.out.2⟩)⟩⟩
        case measure => simp [intOf]
    · have HC := (show Hid _ from A.new n wr hn)
      have HHr : Hid (wr.heap[v]? = some (.cells (fresh11 (some ⟨g0, 0, none⟩) none) 54 (0, 0)) ∧ Below w.heap.size w wr ∧ At wr g0 (LS.new n.toNat) T0 ∧ (∀ b, T0 b → w.heap.size ≤ b ∧ b ≠ v) ∧ winB n = true) := ⟨hh, hbw, h0, hn0, hwb⟩
      have hvl : v < wr.heap.size := (Array.getElem?_eq_some_iff.1 hh).1
      clear HR hbw hh h0 hn0 hwb
      go_wp2_with fail
      refine Calls.mono HC.out ?_
      rintro e w1 h1
      rcases h1 with ⟨hb, -, -⟩ | ⟨hb, g, T, rfl, hx, k1, kT⟩
      · exact absurd (show winB n = false from hb) (by rw [HHr.out.2.2.2.2]; decide)
      · have hh1 : w1.heap[v]? = some (.cells (fresh11 (some ⟨g0, 0, none⟩) none) 54 (0, 0)) := (k1.block v hvl).trans HHr.out.1
        have z1 : w1.cell? ⟨v, 1, none⟩ = some (.pointer none) := cell_of_row w1 v 1 _ _ _ hh1
        have f1 := frozen_of_row w1 v 1 _ _ hh1
        have o1 : Only (fun b => b = v) w1 (w1.setCell ⟨v, 1, none⟩ (.pointer (some ⟨g, 0, none⟩))) := Only.of_grown (grown_set w1 v 1 _) (fun b e => by cases e; rfl)
        have HF : Hid (Below w.heap.size w (w1.setCell ⟨v, 1, none⟩ (.pointer (some ⟨g, 0, none⟩))) ∧ winB n = true ∧ T11 At w v (fun _ => LS.new n.toNat) (fun _ => []) (.slice none 0 0) [] (w1.setCell ⟨v, 1, none⟩ (.pointer (some ⟨g, 0, none⟩)))) := by
          have hbw1 := HHr.out.2.1.trans (k1.mono HHr.out.2.1.size)
          have hb2 := hbw1.trans (o1.below (fun b e => by rw [e]; exact hvw) hbw1.size)
          have nb : ∀ b, b = v → ¬ IsB w1 b := fun b e => by rw [e]; exact IsB.not hh1 (by decide)
          have hsz := HHr.out.2.1.size
          refine ⟨hb2, HHr.out.2.2.2.2, T11.new (g0 := g0) (g1 := g) (T0 := T0) (T1 := T) (by rw [heap_setCell_same w1 v 1 _ _ _ hh1]; rfl) (A.other (A.below HHr.out.2.2.1 k1) o1 (fun b e q => (HHr.out.2.2.2.1 b q).2 e) nb) (A.other hx o1 (fun b e q => by have := kT b q; omega) nb) HHr.out.2.2.2.1 (fun b e => ?_) (fun b e q => ?_) hvw hb2⟩
          · have := kT b e
            exact ⟨by omega, by omega⟩
          · have := kT b q
            have := (A.foot HHr.out.2.2.1).2.1 b e
            omega
        clear HC HHr k1 kT hx hh1 o1 hb
        go_wp2
        go_roundw
        case rel => exact ⟨2, by rfl, by omega, ⟨HF.out.1, .inr (.inr ⟨rfl, HF.out.2⟩)⟩⟩
        case measure => simp [intOf]
    · have HF : Hid (winB n = true ∧ T11 At w v (fun _ => LS.new n.toNat) (fun _ => []) (.slice none 0 0) [] wr) := ⟨hwb, hT⟩
      clear HR hT hwb hbw
      go_wp2
      go_ret2
      exact .inr ⟨HF.out.1, v, rfl, HF.out.2⟩

set_option maxRecDepth 20000 in
set_option maxHeartbeats 6400000 in
theorem order11_walk {At : World → Nat → LS → (Nat → Prop) → Prop} (A : EndOk11 At) (n : Int) (a1 : Option Addr) (len1 cap1 : Nat) (w : World) (hn : -9223372036854775808 ≤ n ∧ n < 9223372036854775808) (HD : Steps11 w a1 len1) :
    Calls Try.prog 5 #[.int .i64 n, .slice a1 len1 cap1] w fun e w' => e = .returned (.bool true) ∧ Below w.heap.size w w' := by
  have HS : Hid (Steps11 w a1 len1) := HD
  clear HD
  go_enter Try.func5, Try.ntmps5
  go_wp2_with fail
  refine (fresh11_any A n w hn).mono ?_
  rintro e w1 h1
  rcases h1 with ⟨hb, rfl, k1⟩ | ⟨hb, v, rfl, hT⟩
  · have hc : n < 1 ∨ (¬ n < 1 ∧ 16 < n) := by
      unfold winB at hb
      simp at hb
      omega
    rcases hc with c | ⟨c, c2⟩
    · have cd : decide (n < 1) = true := decide_eq_true c
      go_wp2
      go_ret
      exact ⟨rfl, k1⟩
    · have cd : decide (n < 1) = false := decide_eq_false c
      have cd2 : decide (16 < n) = true := decide_eq_true c2
      go_wp2
      go_ret
      exact ⟨rfl, k1⟩
  · have hw : 1 ≤ n.toNat ∧ n.toNat ≤ 16 := by
      unfold winB at hb
      simp at hb
      omega
    have HT : Hid (T11 At w v (fun _ => LS.new n.toNat) (fun _ => []) (.slice none 0 0) [] w1 ∧ BothF (fun _ => LS.new n.toNat) (fun _ => [])) := ⟨hT, Both.new hw⟩
    clear hT hb hw
    go_wp2
    go_loopw [7] (fun v7 wr => ∃ i : Nat, v7 = .int .i64 i ∧ i ≤ len1 ∧ i ≤ 300 ∧ Hid (∃ s ou, T11 At w v s ou (.slice none 0 0) [] wr ∧ BothF s ou ∧ ∀ k, k < 2 → (s k).took.length ≤ i ∧ (ou k).length ≤ 100 * i)) (fun v7 _ => 300 - (intOf v7).toNat)
    case atStart => exact ⟨0, rfl, Nat.zero_le _, by omega, ⟨_, _, HT.out.1, HT.out.2, fun k hk => ⟨Nat.le_refl _, Nat.le_refl _⟩⟩⟩
    case round =>
      clear HT
      obtain ⟨i, rfl, hi, hi2, HR⟩ := hrel
      by_cases hlt : i < len1
      · have hlti : (i : Int) < (len1 : Int) := by omega
        by_cases hlt2 : i < 300
        · have hlt2i : (i : Int) < 300 := by omega
          obtain ⟨d, t, m, p, l, c, bs, ⟨b, off, rfl, c0, c1, c2, c3⟩, hby, hnil, hlen⟩ := HS.out i hlt
          obtain ⟨s, ou, hT, hB, hc⟩ := HR.out
          have hbw := hT.below
          replace c0 := bkeep hbw c0 rfl
          replace c1 := bkeep hbw c1 rfl
          replace c2 := bkeep hbw c2 rfl
          replace c3 := bkeep hbw c3 rfl
          have HC := (show Hid _ from play11_any A v s ou w wr hT hB d t m p l c bs (fun wx hb => hby.below hb) hnil hlen (fun k hk => by have := hc k hk; exact ⟨by omega, by omega⟩))
          have HCc : Hid (∀ k, k < 2 → (s k).took.length ≤ i ∧ (ou k).length ≤ 100 * i) := hc
          clear hT hB hc hbw hby HR
          go_wp2_with fail
          refine Calls.mono HC.out ?_
          rintro e w2 ⟨rfl, s', ou', h2, hB2, hc2, -⟩
          have HC2 := (show Hid _ from begins11_any A v s' ou' w w2 h2 hB2 (fun k hk => by have := (hc2 k hk).1; have := (HCc.out k hk).1; omega))
          have HF0 : Hid (BothF (toldUp s' 2) ou' ∧ ∀ k, k < 2 → (toldUp s' 2 k).took.length ≤ i + 1 ∧ (ou' k).length ≤ 100 * (i + 1)) := ⟨toldUp_both hB2 2 (Nat.le_refl _), fun k hk => by
            rw [(toldUp_same s' 2 k).2.1]
            have := hc2 k hk
            have := HCc.out k hk
            exact ⟨by omega, by omega⟩⟩
          clear HC h2 hB2 hc2 HCc c0 c1 c2 c3
          go_wp2_with fail
          refine Calls.mono HC2.out ?_
          rintro e w3 ⟨rfl, h3⟩
          have HF : Hid (∃ s ou, T11 At w v s ou (.slice none 0 0) [] w3 ∧ BothF s ou ∧ ∀ k, k < 2 → (s k).took.length ≤ i + 1 ∧ (ou k).length ≤ 100 * (i + 1)) := ⟨_, _, h3, HF0.out.1, HF0.out.2⟩
          clear HC2 h3 HF0
          go_wp2
          go_roundw
          case rel => exact ⟨i + 1, by go_num, by omega, by omega, HF⟩
          case measure => simp [intOf]; omega
        · obtain rfl : i = 300 := by omega
          obtain ⟨s, ou, hT, -⟩ := HR.out
          have hBB := hT.below
          clear hT HR
          go_wp2
          go_ret
          exact ⟨rfl, hBB⟩
      · have hlti : decide ((i : Int) < (len1 : Int)) = false := decide_eq_false (by omega)
        have hltn : decide (i < len1) = false := decide_eq_false hlt
        obtain ⟨s, ou, hT, -⟩ := HR.out
        have hBB := hT.below
        clear hT HR
        go_wp2
        go_ret
        exact ⟨rfl, hBB⟩
end Go.Proofs.Ytjokbikelklaiaa
